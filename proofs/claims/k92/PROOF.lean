import PyProof.Rows.All
import Wide.All
import OpenK.AllK
import Wide.FinOn
import HandS.Codes
import HandS.ForMost
import HandS.Wide
import HandS.Zip
import HandS.IsInst
import HandS.Defaults
import HandS.Style
import HandS.ForExc
import HandS.Walk
import HandS.More
import HandS.CallLocal
import HandS.WideBits
import KE.BitLaws
import KE.KBits
import HandS.FStr
import PyProof.FitsInt
import HandS.TryOnly
import HandS.Star
import HandS.Flow
import HandS.OwnEq
import HandS.DeepEq
import HandS.Conv
import OpenK.KEqL
import KE.IntBitsLaws
import KE.GoesMore
import KE.KTurns
import HandS.Iter
import HandS.TupAny
import KE.KEqSeq
import HandS.MakeKw
import HandS.ExcField
import HandS.ExcIs
import KE.KExcSuper
import KE.KExcInit
import KE.KExcIs
import HandS.Lambda
import HandS.Small
import HandS.StrMore
import HandS.Text
import KE.KxField
import KE.IntTextText
import KE.IntTextLaws
import HandS.TupMul
import KE.KCallOwn
import HandS.RaiseMore
import HandS.NoneIn
import HandS.DictComp
import KE.KFmtOwn
import HandS.Dict
import HandS.Records
import HandS.Keys
import KE.RegKSuper
import KE.RegKIsAll
import KE.RegKTryMore
import KE.KNestM
import HandS.EndTab
import KE.KStateDown
import HandS.Words
import HandS.WordsExc
import HandS.Head0
import HandS.Head1
import HandS.Head2
import HandS.HeadEnd
import HandS.HeadHook1
import HandS.HeadHook2
import HandS.HeadHook3
import HandS.HeadHook4
import PySem.Challenge.RW_echobound_k92_nets_as_texts
set_option Elab.async false
set_option linter.all false
set_option maxRecDepth 100000
set_option maxHeartbeats 4000000
namespace PySem
namespace ErrX
open PySem.W PySem.Calls PyProof.Rows PySem.HandSPX
abbrev bmA : List Value := [.type "ArithmeticError", .type "Exception", .type "BaseException", .type "object"]
/-- what the written part says of an error class under ArithmeticError -/
structure ErrC (K : Frag) (mg : Str → Option Value) (x : Str) (C : Addr) : Prop where
  gC : mg x = some (.ref C)
  ei : excInitIn K C bmA "ArithmeticError.__new__" = true
  eo : excOver K C bmA = true
  sa : findIn K (.ref C) "__setattr__" = some (some (.builtin "object.__setattr__"))
  ga : findIn K (.ref C) "__getattribute__" = some (some (.builtin "BaseException.__getattribute__"))
  gg : findIn K (.ref C) "__getattr__" = some none
  kC : keepIn K (.ref C) = true
  exC : subIn K (.ref C) (.type "BaseException") = some true
  tyC : typeIn K (.ref C) = some (.type "type")
  hdC : hasDictIn K C = true
/-- its __init__: super().__init__(f'..'), then one field of the same name as the parameter -/
structure IniC (prog : Program) (K : Frag) (mg : Str → Option Value) (C fI cc : Addr) (qual fld : Str) (st : Stmt) (dV : Value) : Prop where
  iC : findIn K (.ref C) "__init__" = some (some (.ref fI))
  tC : typeIn K (.ref fI) = some (.type "function")
  fn : ∃ (oc : Value) (od : Option Addr) (kV doc pm : Value) (an : Option Addr) (cda : Addr) (ct : Value) (osl : Array (Option Value)),
    K.lookup fI = some ⟨oc, od, .func (ksFn "__init__" qual (L2.defArgs st) (L2.defBody st) (L2.defScope st) dV kV doc pm an (.ref cda) ct cc), osl⟩ ∧ codeIn K (.ref cda) qual = true ∧
    ∃ (ccl : Value) (cdd : Option Addr) (vs : Array Value) (ccs : Array (Option Value)) (file : Str) (tf : Tok), K.lookup cda = some ⟨ccl, cdd, .fields vs, ccs⟩ ∧ vs[2]? = some (.str file tf) ∧ ((prog.main.file : Str) == file) = true
  cell : ∃ (cl : Value) (cld : Option Addr) (csl : Array (Option Value)), K.lookup cc = some ⟨cl, cld, .cell (some (.ref C)), csl⟩
  noF : findIn K (.ref C) fld = some none
  sup : ks_superIn K C C "__init__" = some (some (.builtin "ArithmeticError.__init__"))
  subA : subIn K (.ref C) (.type "ArithmeticError") = some true
  slf : mroIn K C (.ref C) = some true
  th : nsIn K cStatics "thirdparty.any" = some none
  msup : mg "super" = none
  top : (prog.main.scope.names.lookup ("super" : Str)).isSome = false
/-- the parts of the text -/
inductive FP (fld : Str) : Expr → Prop
  | c {x : Str} {j : Nat} {pos : Pos} (h : x.length ≤ 1000) : FP fld (.Constant (.str x) j pos)
  | f {p q : Pos} : FP fld (.FormattedValue (.Name fld p) (-1) none q)
/-- a value that is written as a text of at most a thousand signs -/
def FmtOk (v : Value) : Prop := (∃ y t, v = .str y t ∧ y.length ≤ 1000) ∨ ∃ i t, v = .int i t ∧ i.natAbs.log2 < 1920 ∧ (toString i : String).length ≤ 1000
section
variable {prog : Program} {w : World} {A : Around} {E : Value → Shared → Prop} {R : Result → Shared → Prop} {s : Shared} {K : Frag} {mg mb : Str → Option Value} {C fI cc : Addr} {qual fld : Str} {st : Stmt}
theorem joins_ok {env : Env} {m : Str → Option Value} {v : Value} (hk : env.scope.kind = .function) (hl : env.kindOf fld = some .local) (hd : (fld == ("__debug__" : Str)) = false) (hv : m fld = some v) (fv : FmtOk v) :
    ∀ (es : List Expr) (acc : Str) (s : Shared) (Q : Str → Shared → Prop), (∀ e ∈ es, FP fld e) → acc.length + 1000 * es.length ≤ 100000 → s.heap.Ns env.locals m →
      (∀ out tk, out.length ≤ 100000 → Q out { s with toks := tk }) → Joins (model prog w) A E (evalEach es env) acc Q s
  | [], acc, s, Q, _, hz, _, hq => by
    have e0 : evalEach [] env = [] := by first | rfl | simp [evalEach]
    rw [e0]
    have := hq acc s.toks (by simpa using hz)
    exact this
  | e :: es, acc, s, Q, hp, hz, hn, hq => by
    have e0 : evalEach (e :: es) env = eval e env :: evalEach es env := by first | rfl | simp [evalEach]
    rw [e0]
    have hp' : ∀ e ∈ es, FP fld e := fun e h => hp e (List.mem_cons_of_mem _ h)
    rw [List.length_cons] at hz
    have step : ∀ (y : Str) (t : Tok) (tk : Nat), y.length ≤ 1000 → ∃ y' t', Value.str y t = .str y' t' ∧ (acc ++ y').length ≤ sizeLine ∧ Joins (model prog w) A E (evalEach es env) (acc ++ y') Q { s with toks := tk } := fun y t tk hy => by
      have hlen : (acc ++ y).length = acc.length + y.length := by first | exact Str.length_append _ _ | simp
      refine ⟨y, t, rfl, ?_, ?_⟩
      · rw [hlen, sizeLine_eq]
        omega
      · exact joins_ok hk hl hd hv fv es (acc ++ y) { s with toks := tk } Q hp' (by rw [hlen]; omega) hn fun out tk' ho => hq out tk' ho
    show wpAny _ _ (eval e env) _ _ _
    cases hp e List.mem_cons_self with
    | c h => exact Calls.Constant_str (step _ _ _ h)
    | f =>
      refine wpAny_FormattedValue_plain (wpAny_Name (wpAny_loadName_local hk hl hn hv ?_) hd)
      rcases fv with ⟨y, t, rfl, hy⟩ | ⟨i, t, rfl, hi, hy⟩
      · exact wpAny_formatField_str (step y t s.toks hy) (step y _ _ hy) (by rw [sizeLine_eq]; omega)
      · exact wpAny_formatField_int hi (step _ _ _ (by rw [ofString_length]; exact hy))
end
end ErrX
end PySem

namespace PySem
namespace ErrX
open PySem.W PySem.Calls PyProof.Rows PySem.HandSPX
/-- a dict with one text for its key -/
theorem one_key {h : Heap} {dx : Addr} {fld : Str} {hs : Int} {tk : Tok} {v : Value} (e : h.get? dx = some (dictOf [⟨hs, .str fld tk, v⟩] 1)) : h.Ns1 dx (fun y => if y = fld then some v else none) := by
  refine ⟨_, _, _, e, rfl, fun d hd => ?_, List.pairwise_singleton _ _, fun y => ?_⟩
  · obtain rfl : d = ⟨hs, .str fld tk, v⟩ := by simpa using hd
    exact ⟨fld, tk, rfl⟩
  · by_cases z : y = fld
    · subst z
      simp [nsFind, findBy, Value.isStr]
    · simp [nsFind, findBy, Value.isStr, z, Ne.symm z]
/-- what __init__ leaves of a fresh error at x -/
structure IniEnd (h h' : Heap) (x C dx : Addr) (fld : Str) (v : Value) : Prop where
  keep : ∀ b o, b ≠ x → h.get? b = some o → h'.get? b = some o
  obj : ∃ t1 : Addr, h'.get? x = some { cls := .ref C, dict := some dx, data := .fields #[.ref t1, .none, .none, .none, .bool false, .none] }
  dbig : h.objs.size ≤ dx
  dne : dx ≠ x
  ns : h'.Ns1 dx (fun y => if y = fld then some v else none)
section
variable {prog : Program} {w : World} {A : Around} {E : Value → Shared → Prop} {R : Result → Shared → Prop} {s : Shared} {K : Frag} {mg : Str → Option Value} {C fI cc : Addr} {nm qual fld : Str} {st : Stmt}
abbrev iniScope (fld : Str) : Scope := { kind := .function, names := [(Str.ofString "self", .local), (fld, .local), (Str.ofString "__class__", .free), (Str.ofString "super", .globalImplicit)], isGenerator := false, isCoroutine := false, more := [] }
abbrev iniBody (fld : Str) (v1 v2 : Expr) (rest : List Expr) (p1 p2 p3 p4 p5 p6 q1 q2 q3 q4 : Pos) : List Stmt :=
  [.Expr (.Call (.Attribute (.Call (.Name "super" p1) [] [] p2) "__init__" p3) [.JoinedStr (v1 :: v2 :: rest) p4] [] p5) p6, .Assign [.Attribute (.Name "self" q1) fld q2] (.Name fld q3) q4]
/-- a field's name that is none of these -/
structure FldOk (fld : Str) : Prop where
  f1 : (fld == Str.ofString "self") = false
  f2 : (Str.ofString "__class__" == fld) = false
  f3 : (Str.ofString "super" == fld) = false
  f4 : (Str.ofString "self" == fld) = false
  f5 : (fld == Str.ofString "__debug__") = false
section
variable {fld : Str}
theorem lk_self : (iniScope fld).names.lookup (Str.ofString "self") = some .local := by
  rw [List.lookup_cons, beq_self_eq_true]
theorem lk_fld (O : FldOk fld) : (iniScope fld).names.lookup fld = some .local := by
  rw [List.lookup_cons, O.f1, List.lookup_cons, beq_self_eq_true]
theorem lk_cls (O : FldOk fld) : (iniScope fld).names.lookup (Str.ofString "__class__") = some .free := by
  rw [List.lookup_cons, show (Str.ofString "__class__" == Str.ofString "self") = false by decide +kernel, List.lookup_cons, O.f2, List.lookup_cons, beq_self_eq_true]
theorem lk_sup (O : FldOk fld) : (iniScope fld).names.lookup (Str.ofString "super") = some .globalImplicit := by
  rw [List.lookup_cons, show (Str.ofString "super" == Str.ofString "self") = false by decide +kernel, List.lookup_cons, O.f3, List.lookup_cons, show (Str.ofString "super" == Str.ofString "__class__") = false by decide +kernel, List.lookup_cons, beq_self_eq_true]
end
theorem err_init {s1 p1 p2 p3 p4 p5 p6 q1 q2 q3 q4 : Pos} {v1 v2 : Expr} {rest : List Expr} (EC : ErrC K mg nm C) {dV : Value} (IC : IniC prog K mg C fI cc qual fld st dV) (O : FldOk fld)
    (hbd : L2.defBody st = iniBody fld v1 v2 rest p1 p2 p3 p4 p5 p6 q1 q2 q3 q4)
    (hpar : ((L2.defArgs st).posonlyargs ++ (L2.defArgs st).args).head? = some { arg := "self", annotation := none, pos := s1 })
    (hps : ∀ e ∈ v1 :: v2 :: rest, FP fld e) (hlen : rest.length ≤ 20) (hpos : (p3.endLine == p5.line) = true) (hsc : L2.defScope st = iniScope fld)
    {x t0 : Addr} {v : Value} (MO : L2.Mod K mg s.heap) (hx : s.heap.get? x = some (excO C t0)) (hnx : K.lookup x = none) (hroom : A.depth < recursionLimit) (fv : FmtOk v)
    (hbind : ∀ kV doc pm an cda ct, BindsTo s (ksFn "__init__" qual (L2.defArgs st) (L2.defBody st) (L2.defScope st) dV kV doc pm an (.ref cda) ct cc) ⟨[.ref x, v], []⟩ [(Str.ofString "self", .ref x), (fld, v)])
    (hq : ∀ h' tk dx, IniEnd s.heap h' x C dx fld v → R (.ok (.ret .none)) { s with heap := h', toks := tk }) :
    codeAny (model prog w) A (.call (.ref fI) ⟨[.ref x, v], []⟩) R s := by
  obtain ⟨oc, od, kV, doc, pm, an, cda, ct, osl, ho, hcd, ccl, cdd, vs, ccs, file, tf, hcda, hvs, hfile⟩ := IC.fn
  have X := MO.kin
  have hb := hbind kV doc pm an cda ct
  rw [hbd, hsc] at ho hb
  obtain ⟨cl, cld, csl, hcell⟩ := IC.cell
  obtain ⟨mb, hmb, hmb2⟩ := MO.blt
  obtain ⟨nm', N', qn, bs, bm, hdct, sn, sub, ab, col, dd, k0, k1, k2, k3, k5, hC, hT⟩ := excInit_of X EC.ei
  obtain ⟨hp, g, d, t, os⟩ := s
  refine ks_codeAny_call_defAt (fd := ksFn "__init__" qual (L2.defArgs st) (iniBody fld v1 v2 rest p1 p2 p3 p4 p5 p6 q1 q2 q3 q4) (iniScope fld) dV kV doc pm an (.ref cda) ct cc) (body := iniBody fld v1 v2 rest p1 p2 p3 p4 p5 p6 q1 q2 q3 q4) (binds := [(Str.ofString "self", .ref x), (fld, v)])
    hroom (X _ _ ho) rfl MO.nolimit (codeRec_of X hcd) rfl hb ?_ ?_ (fun h₁ hns k => ?_)
  · intro y hy z
    have hy' : y ∈ (iniScope fld).names := hy
    simp only [List.mem_cons, List.not_mem_nil, or_false] at hy'
    rcases hy' with rfl | rfl | rfl | rfl <;> cases z
  · intro y hy
    simp only [List.mem_cons, List.not_mem_nil, or_false] at hy
    rcases hy with rfl | rfl
    · exact lk_self
    · exact lk_fld O
  · have X₁ : K.In h₁ := X.keeps k
    have hx₁ := k _ _ hx
    have hC₁ := k _ _ hC
    have mS : (fun y => [(Str.ofString "self", Value.ref x), (fld, v)].reverse.lookup y) (Str.ofString "self") = some (.ref x) := by
      show List.lookup (Str.ofString "self") [(fld, v), (Str.ofString "self", Value.ref x)] = _
      rw [List.lookup_cons, O.f4, List.lookup_cons, beq_self_eq_true]
    have mF : (fun y => [(Str.ofString "self", Value.ref x), (fld, v)].reverse.lookup y) fld = some v := by
      show List.lookup fld [(fld, v), (Str.ofString "self", Value.ref x)] = _
      rw [List.lookup_cons, beq_self_eq_true]
    refine ks_wpAt_execs_cons (ks_wpAt_Expr_any (ks_wpAt_MethodCall (pl := (do return (← importBound (.Call (.Name "super" p1) [] [] p2) (ksEnv qual (iniScope fld) hp.objs.size fI (.ref cda) cc)).getD true)) ?_ ?_))
    rotate_left
    · rw [arm_eval_Call]
      unfold methodCall
      have e2 : ∀ env : Env, methodCallPos (methodCallForm ([Expr.JoinedStr (v1 :: v2 :: rest) p4].length + ([] : List Keyword).length) (backTo p5 (starEach [Expr.JoinedStr (v1 :: v2 :: rest) p4] env)) (backToKw p5 (keywordEach [] env))) (.Call (.Name "super" p1) [] [] p2) env p3 p5 = pure p5 := fun env => by
        show (if (!true || p3.endLine == p5.line) = true then pure p5 else _) = _
        rw [hpos]
        rfl
      rw [e2]
      rfl
    refine ks_wpAt_super_base (f := fI) (cc := cda) (lk_sup O) (lk_cls O) (by decide +kernel) rfl (X₁ _ _ ho) rfl hpar rfl (X₁ _ _ hcda) rfl hvs hfile IC.top ?_
    refine ks_loadName_global rfl (lk_sup O) (loadGlobal_builtin (MO.glob.keeps k) IC.msup (hmb.keeps k) ((hmb2 "super" (by decide)).trans (show bootBuiltins "super" = some (.type "super") by decide +kernel)) ⟨rfl, ?_⟩)
    refine wpAny_loadName_free rfl (lk_cls O) rfl ⟨_, X₁ _ _ hcell, rfl⟩ ?_
    refine wpAny_loadName_local rfl lk_self hns mS ?_
    refine ks_wpAny_isType_cls hC₁ rfl ⟨rfl, ?_⟩
    refine ks_wpAny_call_super hC₁ rfl hx₁ rfl (fun c z => by cases z) (looks_mroIn X₁ IC.slf) (fun h₂ hso k₂ => ?_)
    have X₂ : K.In h₂ := X₁.keeps k₂
    have hx₂ := k₂ _ _ hx₁
    have I₂ : W.InstAt h₂ x (excO C t0) C none := ⟨hx₂, rfl, rfl, trivial⟩
    have hsup := IC.sup
    unfold ks_superIn at hsup
    cases hc : clsIn K C with
    | none =>
      rw [hc] at hsup
      cases hsup
    | some cd =>
    rw [hc] at hsup
    refine kxs_getMethod kxs_ArithmeticError hso (looks_opaque X₂ IC.th) (l₀ := cd.mro) (fun A Q E s k q => wpAny_bind ((looks_clsIn X₂ hc) A _ E s k (wpAny_pure q))) rfl X₂ hsup (I₂.type.andThen (looks_subIn X₂ IC.subA)) (ks_ne X₂ I₂ hc) (by decide +kernel) ?_
    have k₃ : ∀ b o, h₂.get? b = some o → (h₂.push (kxs_mw "ArithmeticError.__init__" x)).get? b = some o := fun b o e => Heap.get?_push_of_some _ e
    have hu : (h₂.push (kxs_mw "ArithmeticError.__init__" x)).get? h₂.objs.size = some (kxs_mw "ArithmeticError.__init__" x) := Heap.get?_push_at rfl rfl
    have kk : ∀ b o, hp.get? b = some o → (h₂.push (kxs_mw "ArithmeticError.__init__" x)).get? b = some o := fun b o e => k₃ _ _ (k₂ _ _ (k _ _ e))
    have hns₃ : (h₂.push (kxs_mw "ArithmeticError.__init__" x)).Ns hp.objs.size (fun y => [(Str.ofString "self", Value.ref x), (fld, v)].reverse.lookup y) := by
      obtain ⟨oL, es, ep, hL, r⟩ := hns
      exact ⟨oL, es, ep, k₃ _ _ (k₂ _ _ hL), r⟩
    have hx₃ := k₃ _ _ hx₂
    have hC₃ := kk _ _ hC
    have hsz : h₂.objs.size < (h₂.push (kxs_mw "ArithmeticError.__init__" x)).objs.size := Heap.lt_size hu
    generalize h₂.push (kxs_mw "ArithmeticError.__init__" x) = h₃ at *
    refine kxs_callWith (i := "ArithmeticError.__init__") (x := x) rfl (evalArgs_plain ?_)
    refine Calls.spliced_cons (wpAny_JoinedStr (pos := p4) (joins_ok (env := callEnv (ksFn "__init__" qual (L2.defArgs st) (iniBody fld v1 v2 rest p1 p2 p3 p4 p5 p6 q1 q2 q3 q4) (iniScope fld) dV kV doc pm an (.ref cda) ct cc) hp.objs.size fI) rfl (lk_fld O) O.f5 mF fv _ Str.empty _ _ hps ?_ hns₃ fun out tk ho => ⟨by rw [sizeLine_eq]; omega, ?_⟩))
    · rw [List.length_cons, List.length_cons]
      show 0 + 1000 * (rest.length + 1 + 1) ≤ 100000
      omega
    refine Calls.spliced_nil ⟨hu, ?_⟩
    -- the library's own rules, over the heap of the call with the error itself left out
    have xL : x ≠ hp.objs.size := Nat.ne_of_lt (Heap.lt_size hx)
    have nK : ∀ a o, K.lookup a = some o → a ∉ [x] := fun a o e z => by
      rw [List.mem_singleton.mp z, hnx] at e
      cases e
    have X₀ : K.In (hideAll hp [x]) := fun a o e => hideAll_get [x] (X a o e) (nK a o e)
    have F₃ : Fr (hideAll hp [x]) hp.objs.size h₃ (fun y => [(Str.ofString "self", Value.ref x), (fld, v)].reverse.lookup y) :=
      ⟨hns₃, fun b o e => kk b o (of_hideAll [x] e), Nat.le_of_eq (hideAll_size [x] hp)⟩
    have L₂ : hp.objs.size < h₂.objs.size := by
      obtain ⟨oL, es, ep, hL, _⟩ := hns
      exact Heap.lt_size (k₂ _ _ hL)
    have ux : h₂.objs.size ≠ x := Nat.ne_of_gt (Nat.lt_trans (Heap.lt_size hx) L₂)
    have uo : (hideAll hp [x]).get? h₂.objs.size = none := by
      cases e : (hideAll hp [x]).get? h₂.objs.size with
      | none => rfl
      | some o => exact absurd (Nat.lt_trans (Heap.lt_size (of_hideAll [x] e)) L₂) (Nat.lt_irrefl _)
    have N₃ : News (hideAll hp [x]) hp.objs.size h₃ [(h₂.objs.size, kxs_mw "ArithmeticError.__init__" x), (x, excObj C t0 none .none)] := fun p hp' => by
      rcases List.mem_cons.mp hp' with rfl | hp'
      · exact ⟨hu, Nat.ne_of_gt L₂, uo⟩
      · obtain rfl := List.mem_singleton.mp hp'
        exact ⟨hx₃, xL, hideAll_none [x] (List.mem_singleton.mpr rfl)⟩
    refine kxs_call F₃ X₀ N₃ F.excBase_ArithmeticError EC.ei List.mem_cons_self (.tail ux (.head fun p z => nomatch z)) (by show 1 ≤ sizeLine; decide) fun t1 h₄ F₄ N₄ lt₄ => ?_
    have X₄ : K.In h₄ := X₀.keeps F₄.keep
    have hx₄ : h₄.get? x = some (excO C t1) := (N₄ (x, excObj C t1 none .none) (by simp)).1
    have tx : t1 ≠ x := Nat.ne_of_gt (lt₄ (x, excObj C t0 none .none) (by simp))
    refine ks_wpAt_execs_cons (ks_wpAt_Assign_Attr (wpAt_of_wpAny (wpAny_Name (wpAny_loadName_local rfl (lk_fld O) F₄.ns mF ?_) O.f5)))
    refine wpAny_Name (wpAny_loadName_local rfl lk_self F₄.ns mS ?_) (by decide +kernel)
    refine set_plain X₄ (ox := excO C t1) (od := none) ⟨hx₄, rfl, rfl, trivial⟩ EC.sa ?_
    have free : takerIn K C fld = some none := by
      rw [takerIn, IC.noF]
      rfl
    refine osa_exc0 (pre := [(t1, _), (h₂.objs.size, _)]) (post := []) F.store_ArithmeticError F₄ N₄ X₄ EC.eo free EC.hdC (fun p z => ?_) (fun p z => nomatch z) (putName_dict _ _ _ _ _ _) rfl (by show 1 ≤ 1000; decide) fun dx h₅ F₅ N₅ lt₅ => ?_
    · rcases List.mem_cons.mp z with rfl | z
      · exact tx
      · obtain rfl := List.mem_singleton.mp z
        exact ux
    refine wpAt_of_wpAny (wpAny_execs_nil ?_)
    have xd : x < dx := lt₅ (x, excObj C t1 none .none) (by simp)
    have ud : h₂.objs.size < dx := lt₅ (h₂.objs.size, kxs_mw "ArithmeticError.__init__" x) (by simp)
    exact hq h₅ _ dx ⟨fun b o hb e => F₅.keep b o (hideAll_get [x] e fun z => hb (List.mem_singleton.mp z)), ⟨t1, (N₅ (x, excObj C t1 (some dx) .none) (by simp)).1⟩, Nat.le_of_lt (Nat.lt_trans L₂ ud), Nat.ne_of_gt xd, one_key (N₅ _ List.mem_cons_self).1⟩
end
end ErrX
end PySem

namespace PySem
namespace ErrX
open PySem.W PySem.Calls PyProof.Rows PySem.HandSPX
/-- a made error with one field -/
structure Made1 (h h' : Heap) (e C d : Addr) (fld : Str) (v : Value) : Prop where
  keep : ∀ b o, h.get? b = some o → h'.get? b = some o
  new : h.objs.size ≤ e
  obj : ∃ oe vs, h'.get? e = some oe ∧ oe.cls = .ref C ∧ oe.dict = some d ∧ oe.data = .fields vs ∧ vs[1]? = some .none
  dbig : h.objs.size ≤ d
  dne : d ≠ e
  ns : h'.Ns1 d (fun y => if y = fld then some v else none)
/-- its __init__ does as it should -/
structure IniOk (prog : Program) (w : World) (K : Frag) (mg : Str → Option Value) (C fI : Addr) (fld : Str) : Prop where
  iC : findIn K (.ref C) "__init__" = some (some (.ref fI))
  tC : typeIn K (.ref fI) = some (.type "function")
  run : ∀ (A : Around) (R : Result → Shared → Prop) (s : Shared) (x t0 : Addr) (v : Value), L2.Mod K mg s.heap → s.heap.get? x = some (excO C t0) → K.lookup x = none → A.depth < recursionLimit → FmtOk v →
    (∀ h' tk dx, IniEnd s.heap h' x C dx fld v → R (.ok (.ret .none)) { s with heap := h', toks := tk }) → codeAny (model prog w) A (.call (.ref fI) ⟨[.ref x, v], []⟩) R s
section
variable {prog : Program} {w : World} {A : Around} {E : Value → Shared → Prop} {R : Result → Shared → Prop} {s : Shared} {K : Frag} {mg : Str → Option Value} {C fI : Addr} {nm fld : Str}
theorem err_made (EC : ErrC K mg nm C) (IO : IniOk prog w K mg C fI fld) {v : Value} (MO : L2.Mod K mg s.heap) (hroom : A.depth + 1 < recursionLimit) (fv : FmtOk v)
    (hq : ∀ h' tk e d, Made1 s.heap h' e C d fld v → R (.ok (.ret (.ref e))) { s with heap := h', toks := tk }) :
    codeAny (model prog w) A (.call (.ref C) ⟨[v], []⟩) R s := by
  have X := MO.kin
  obtain ⟨nm', N', qn, bs, bm, hdct, sn, sub, ab, col, dd, k0, k1, k2, k3, k5, hC, hT⟩ := excInit_of X EC.ei
  obtain ⟨hp, g, dr, tk, os⟩ := s
  have k : ∀ b o, hp.get? b = some o → ((hp.push (kdv_tup [v])).push (excO C hp.objs.size)).get? b = some o := fun b o e => Heap.get?_push_of_some _ (Heap.get?_push_of_some _ e)
  have hget : ((hp.push (kdv_tup [v])).push (excO C hp.objs.size)).get? (hp.objs.size + 1) = some (excO C hp.objs.size) := by heap_get
  have hnx : K.lookup (hp.objs.size + 1) = none := by
    cases e : K.lookup (hp.objs.size + 1) with
    | none => rfl
    | some o =>
      have z : hp.get? (hp.objs.size + 1) = some o := X _ _ e
      exact absurd (Nat.lt_of_succ_lt (Heap.lt_size z)) (Nat.lt_irrefl _)
  have MO' : L2.Mod K mg ((hp.push (kdv_tup [v])).push (excO C hp.objs.size)) := by
    obtain ⟨mb, h1, h2⟩ := MO.blt
    exact ⟨X.keeps k, MO.glob.keeps k, ⟨mb, h1.keeps k, h2⟩, MO.nolimit.keeps k⟩
  refine call_own F.excBase_ArithmeticError hT hC (looks_findIn X IO.iC) (fun self => bind_fn X self IO.tC) (by show 1 ≤ sizeLine; decide) ?_
  refine IO.run _ _ ⟨(hp.push (kdv_tup [v])).push (excO C hp.objs.size), g, dr, tk, os⟩ _ _ _ MO' hget hnx ?_ fv fun h' tk' dx ⟨k', ⟨t1, hx⟩, dn, dne, hns⟩ => ?_
  · show A.depth + 1 < recursionLimit
    exact hroom
  · have old : ∀ b o, hp.get? b = some o → h'.get? b = some o := fun b o e => k' b o (Nat.ne_of_lt (Nat.lt_succ_of_lt (Heap.lt_size e))) (k b o e)
    have z : hp.objs.size + 1 + 1 ≤ dx := by
      first
        | (simpa only [Heap.size_push] using dn)
        | exact dn
        | (have q := dn; rw [Heap.size_push, Heap.size_push] at q; exact q)
    exact ⟨rfl, hq h' tk' (hp.objs.size + 1) dx ⟨old, Nat.le_succ _, ⟨_, _, hx, rfl, rfl, rfl, rfl⟩, Nat.le_trans (Nat.le_trans (Nat.le_succ _) (Nat.le_succ _)) z, dne, hns⟩⟩
end
end ErrX
end PySem
namespace E1
open PySem PySem.Spec PyProof.Rows L2
open PySem.ErrX (ErrC IniOk FmtOk)
/-- a value that is written as a text of at most a thousand signs -/
def VFmt (v : V) : Prop := (∃ y : Str, v = .str y ∧ y.length ≤ 1000) ∨ ∃ i : Int, v = .int i ∧ i.natAbs.log2 < 1920 ∧ (toString i : String).length ≤ 1000
theorem VFmt.ok {v : V} {u : Value} (h : VFmt v) (r : RelV v u) : FmtOk u := by
  rcases h with ⟨y, rfl, hy⟩ | ⟨i, rfl, hi, hy⟩
  · obtain ⟨t, rfl⟩ := (show ∃ t, u = Value.str y t from r)
    exact .inl ⟨y, t, rfl, hy⟩
  · obtain ⟨t, rfl⟩ := (show ∃ t, u = Value.int i t from r)
    exact .inr ⟨i, t, rfl, hi, hy⟩
theorem relO_one {fld : Str} {v : V} {v' : Value} (r : RelV v v') (f : Str) : RelO (List.lookup f [(fld, v)]) (if f = fld then some v' else none) := by
  by_cases hw : f = fld
  · subst hw
    rw [if_pos rfl]
    have q : List.lookup f [(f, v)] = some v := by simp [List.lookup]
    rw [q]
    exact r
  · rw [if_neg hw]
    have qw : (f == fld) = false := by simpa using hw
    have q2 : List.lookup f [(fld, v)] = none := by simp [List.lookup, qw]
    rw [q2]
    trivial
section
variable {X : Cx} {C fI : Addr} {x fld : Str}
/-- X(e), an error with one field -/
def tMkErr (C : Addr) (fld : Str) (ta : TA) : L2.St → Hp → XK → Prop := fun σ H Q => ta σ H fun vs H1 => ∃ v, vs = [v] ∧ VFmt v ∧ ∀ d, H1 d = none → Q (.ref C) (some d) (upd H1 d (.xd [(fld, v)]))
theorem pmk_err {a : Expr} {ta : TA} {p pos : Pos} {k : Nat} (EC : ErrC X.K X.mg x C) (IO : IniOk X.prog X.w X.K X.mg C fI fld) (hr : Room k X.A) (ha : PA X [a] ta) (hg : Gl X x := by rfl) (hdb : (x == ("__debug__" : Str)) = false := by decide)
    (he : starEach (a :: []) X.env = (false, eval a X.env) :: starEach [] X.env := by rfl) (hpl : (backTo pos (starEach [] X.env)).any (·.1) = false := by rfl) :
    PMk X (.Call (.Name x p) [a] [] pos) (tMkErr C fld ta) := by
  intro pins s σ H Q I h
  refine wpAny_Call_Name_kw (ld_glob I hg EC.gC ?_ hdb)
  refine PySem.W.callWith_K (h₀ := X.base) I.ok.mod.kin EC.kC (thn (ha.run pos pins s σ H _ I h) fun us s1 hh => ?_) he hpl
  obtain ⟨vs, H1, I1, r1, v, ev, fv, q1⟩ := hh
  subst ev
  refine ⟨I1.kIn, ?_⟩
  cases r1 with
  | cons rv rn =>
    rename_i v' us'
    cases rn
    show wpAny _ _ (call (.ref C) [v']) _ _ _
    have MO : Mod X.K X.mg s1.heap := by
      obtain ⟨mb, h1, h2⟩ := I1.mod.blt
      exact ⟨I1.kIn, I1.mod.glob.keeps I1.bk, ⟨mb, h1.keeps I1.bk, h2⟩, I1.nolimit⟩
    obtain ⟨hp, g, dr, tk, os⟩ := s1
    refine wpAny_call (PySem.ErrX.err_made EC IO MO (by have := hr.dp; omega) (fv.ok rv) fun h' tk' e d M => ?_)
    show MkP X pins σ Q (.ref e) ⟨h', g, dr, tk', os⟩
    obtain ⟨oe, fv', hoe, hc, hd, hdat, h1⟩ := M.obj
    have hns := M.ns
    obtain ⟨G', g1, g2⟩ := restrict h' fun b => decide (b ≠ e)
    have gk : ∀ b, b ≠ e → G'.get? b = h'.get? b := fun b hb => g1 b (decide_eq_true hb)
    have ge : G'.get? e = none := g2 e (by simp)
    have old : ∀ b o, hp.get? b = some o → G'.get? b = some o := fun b o q => (gk b (Nat.ne_of_lt (Nat.lt_of_lt_of_le (Heap.lt_size q) M.new))).trans (M.keep b o q)
    have ob : ObjOk X.prog X.w (upd H1 d (.xd [(fld, v)])) G' d (.xd [(fld, v)]) :=
      ⟨_, hns.at (fun o q => (gk d M.dne).trans q), fun f => relO_one rv f⟩
    have J : Inv X pins σ (upd H1 d (.xd [(fld, v)])) ⟨G', g, dr, tk', os⟩ := I1.laid (t' := tk') old M.dbig ob
    refine ⟨e, oe, fv', ⟨G', g, dr, tk', os⟩, _, .ref C, some d, rfl, J, fun b o q => ?_, ge, hoe, ⟨hc, hd⟩, hdat, h1, ?_, rfl, I1.bare, raises_own EC.exC EC.tyC, q1 d (I1.hok.fresh M.dbig)⟩
    · by_cases hb : b = e
      · have q' : G'.get? b = some o := q
        rw [hb, ge] at q'; cases q'
      · exact (gk b hb).symm.trans q
    · rw [upd_ne (Ne.symm M.dne)]
      exact I1.hok.fresh M.new
/-- raise X(e) -/
def tRaiseErr (C : Addr) (fld : Str) (W : WX) (ta : TA) : TS := fun _ σ H => tMkErr C fld ta σ H fun cls d H' => W cls d σ H'
theorem ps_raiseErr {a : Expr} {ta : TA} {W : WX} {p pos pos2 : Pos} {k : Nat} (hc : X.calm = true) (EC : ErrC X.K X.mg x C) (IO : IniOk X.prog X.w X.K X.mg C fI fld) (hr : Room k X.A) (tk : Takes X W) (ha : PA X [a] ta) (hg : Gl X x := by rfl) (hdb : (x == ("__debug__" : Str)) = false := by decide)
    (he : starEach (a :: []) X.env = (false, eval a X.env) :: starEach [] X.env := by rfl) (hpl : (backTo pos (starEach [] X.env)).any (·.1) = false := by rfl) :
    PS X (.Raise (some (.Call (.Name x p) [a] [] pos)) none pos2) (tRaiseErr C fld W ta) := ps_raise hc tk (pmk_err EC IO hr ha hg hdb he hpl)
/-- e.f of a caught error -/
theorem ErrC.xf {K : PySem.W.Frag} {mg : Str → Option Value} (EC : ErrC K mg x C) : XfC K C := ⟨EC.ga, EC.gg, EC.exC, EC.hdC⟩
end
end E1

namespace E1
open PySem PySem.Spec PyProof.Rows L2
open PySem.ErrX (ErrC IniOk FmtOk)
/-- isinstance(e, c), e the error that the suite holds, its class an own one -/
def rIsX (K : PySem.W.Frag) (a : Addr) (cls : Value) (d : Option Addr) : List V → Hp → VK → Prop := fun xs H Q => ∃ (D : Addr) (c : V) (cv : Value) (b : Bool), cls = .ref D ∧ ExcC K D ∧ xs = [.ref a, c] ∧ (∀ u, RelV c u → u = cv) ∧
  (∀ dd, d = some dd → ∃ fs, H dd = some (.xd fs)) ∧ PySem.W.kitOne K (.ref D) cv = some b ∧ Q (.bl b) H
theorem call_isX {X : Cx} {a : Addr} {cls : Value} {d : Option Addr} {oe : Obj} {pn : List (Addr × Obj)} (hz : Zc cls d oe) (hf : ∃ vs, oe.data = .fields vs) : CallR (X.suite a ((a, oe) :: pn)) (.builtin "isinstance") (rIsX X.K a cls d) := by
  intro pins s σ H xs us Q I r ⟨D, c, cv, b, hcls, C, hxs, only, hdd, yes, q⟩
  subst hcls hxs
  match d, hz, hdd, us, r with
  | none, hz, _, us, r => exact call_isE C hz hf pins s σ H _ us Q I r ⟨c, cv, b, rfl, only, yes, q⟩
  | some dd, ⟨kind, own⟩, hdd, [x, u], .cons hx (.cons hu .nil) =>
    cases hx
    cases only u hu
    obtain ⟨fs, tracked⟩ := hdd dd rfl
    obtain ⟨m, space, _⟩ := show ObjOk X.prog X.w H s.heap dd (.xd fs) from I.hok dd _ tracked
    obtain ⟨dict, lies, _⟩ := lookIn_ns space
    obtain ⟨parts, hparts⟩ := hf
    have held := (I.pin (a, oe) (by simp)).1
    have inst : PySem.W.InstAt s.heap a oe D (some dict) := by
      refine ⟨held, kind, ?_, ?_⟩
      · obtain ⟨_, _, dat, _⟩ := oe
        dsimp only at hparts ⊢
        rw [hparts]
        rfl
      · simpa [own] using lies
    have known : (PySem.W.clsIn X.K D).isSome = true := Option.isSome_iff_exists.mpr ((PySem.W.any_some C.hd).imp fun _ z => z.1)
    exact PySem.W.kia_one (PySem.W.kitx_exc known C.hg C.hk C.hs C.ha C.hn C.ht C.hm) I.kIn inst yes (fun z => nomatch z) fun tk => ⟨.bl b, H, I.kept (t' := tk) fun _ _ z => z, rfl, q⟩
/-! ### calls of defs that may raise -/
def CalX (P : Program) (w : World) (K : PySem.W.Frag) (mg : Str → Option Value) (base : Heap) (k : Nat) (x : Str) (ps : List Str) (dvs : List V) (sp : Sp) : Prop :=
  ∃ (f : Addr) (fd : FuncData) (ds : List Value), mg x = some (.ref f) ∧ PySem.W.keepIn K (.ref f) = true ∧ Vals dvs ds ∧ Binds K fd ps ds ∧ FnOk P w K mg base (L2.CX P w) k f fd ps sp
theorem pe_calx {X : Cx} {k j : Nat} {x : Str} {ps : List Str} {dvs : List V} {sp : Sp} {e : Expr} {es : List Expr} {t : TA} {p pos : Pos} (c : CalX X.prog X.w X.K X.mg X.base k x ps dvs sp) (hr : Room j X.A) (ha : PA X (e :: es) t) (hle : k ≤ j := by decide) (hg : Gl X x := by rfl)
    (hdb : (x == ("__debug__" : Str)) = false := by decide) (he : starEach (e :: es) X.env = (false, eval e X.env) :: starEach es X.env := by rfl) (hpl : (backTo pos (starEach es X.env)).any (·.1) = false := by rfl) :
    PE X (.Call (.Name x p) (e :: es) [] pos) (tCall sp dvs E0 t) := by
  obtain ⟨f, fd, ds, h1, h2, hd, h3, h4⟩ := c
  exact pe_call h4 (hr.mono hle) hg h1 h2 h3 hd passL ha hdb he hpl
def CalXK (P : Program) (w : World) (K : PySem.W.Frag) (mg : Str → Option Value) (base : Heap) (k : Nat) (x : Str) (ps : List Str) (n : Nat) (ks : List Str) (gV : List V → List V → List V) (sp : Sp) : Prop :=
  ∃ (f : Addr) (fd : FuncData) (g : List Value → List Value → List Value), mg x = some (.ref f) ∧ PySem.W.keepIn K (.ref f) = true ∧ KBn K fd ps n ks g gV ∧ FnOk P w K mg base (L2.CX P w) k f fd ps sp
theorem pe_calkx0 {X : Cx} {k j : Nat} {x : Str} {ps ks : List Str} {gV : List V → List V → List V} {sp : Sp} {kws : List Keyword} {tk : TA} {p pos : Pos} (c : CalXK X.prog X.w X.K X.mg X.base k x ps 0 ks gV sp) (hr : Room j X.A)
    (hkw : PK X kws tk) (hle : k ≤ j := by decide) (hg : Gl X x := by rfl) (hall : (backToKw pos (keywordEach kws X.env)).all (·.1.isSome) = true := by rfl) (hks : (backToKw pos (keywordEach kws X.env)).filterMap (·.1) = ks := by rfl)
    (hdb : (x == ("__debug__" : Str)) = false := by decide)
    (hpl : ((backTo pos (starEach [] X.env)).any (·.1) || (backToKw pos (keywordEach kws X.env)).any (·.1.isNone)) = false := by rfl) :
    PE X (.Call (.Name x p) [] kws pos) (tCallN 0 ks.length sp gV E0 tNil tk) := by
  obtain ⟨f, fd, g, h1, h2, h3, h4⟩ := c
  refine ⟨fun pins s σ H Q I h => ?_⟩
  refine wpAny_Call_Name_kw (ld_glob I hg h1 ?_ hdb)
  refine PySem.W.callWith_KW0 (h₀ := X.base) I.ok.mod.kin h2 hall (thn (hkw.run pos pins s σ H _ I h) fun ws s2 ⟨zs, H2, I2, rz, l1, l2, q2⟩ => ⟨I2.kIn, ?_⟩) hpl
  rw [hks]
  exact run_fnN (vs := []) (us := []) h4 (hr.mono hle) h3 passL I2 .nil rz l1 l2 q2
/-- a call whose error a try around it waits for -/
theorem pe_calxS {X : Cx} {k j : Nat} {x : Str} {ps : List Str} {sp : Sp} {e : Expr} {es : List Expr} {t : TA} {p pos : Pos} {W : WX} (c : CalX X.prog X.w X.K X.mg X.base k x ps [] sp) (hr : Room j X.A) (tk : Takes X W) (ha : PA X (e :: es) t) (hle : k ≤ j := by decide) (hg : Gl X x := by rfl)
    (hdb : (x == ("__debug__" : Str)) = false := by decide) (he : starEach (e :: es) X.env = (false, eval e X.env) :: starEach es X.env := by rfl) (hpl : (backTo pos (starEach es X.env)).any (·.1) = false := by rfl) :
    PE X (.Call (.Name x p) (e :: es) [] pos) (tCallS sp (WE W) t) := by
  obtain ⟨f, fd, ds, h1, h2, hd, h3, h4⟩ := c
  cases hd
  exact pe_callS h4 (hr.mono hle) hg h1 h2 h3 (fun σ => passAt tk σ) ha hdb he hpl
end E1

namespace E1
open PySem PySem.Spec PyProof.Rows L2
/-! ### a def of the text that is called by its name -/
def Cal (P : Program) (w : World) (K : PySem.W.Frag) (mg : Str → Option Value) (base : Heap) (k : Nat) (x : Str) (ps : List Str) (sp : Sp) : Prop :=
  ∃ (f : Addr) (fd : FuncData), mg x = some (.ref f) ∧ PySem.W.keepIn K (.ref f) = true ∧ Binds K fd ps [] ∧ FnOk P w K mg base CX0 k f fd ps sp
theorem pe_cal {X : Cx} {k j : Nat} {x : Str} {ps : List Str} {sp : Sp} {e : Expr} {es : List Expr} {t : TA} {p pos : Pos} (c : Cal X.prog X.w X.K X.mg X.base k x ps sp) (hr : Room j X.A) (ha : PA X (e :: es) t) (hle : k ≤ j := by decide) (hg : Gl X x := by rfl)
    (hdb : (x == ("__debug__" : Str)) = false := by decide) (he : starEach (e :: es) X.env = (false, eval e X.env) :: starEach es X.env := by rfl) (hpl : (backTo pos (starEach es X.env)).any (·.1) = false := by rfl) :
    PE X (.Call (.Name x p) (e :: es) [] pos) (tCall sp [] E0 t) := by
  obtain ⟨f, fd, h1, h2, h3, h4⟩ := c
  exact pe_call h4 (hr.mono hle) hg h1 h2 h3 .nil pass0 ha hdb he hpl
/-! ### heaps -/
def SameBut (a : Addr) (H H' : Hp) : Prop := ∀ b o, b ≠ a → H b = some o → H' b = some o
theorem SameBut.refl (a : Addr) (H : Hp) : SameBut a H H := fun _ _ _ h => h
theorem SameBut.trans {a : Addr} {H H1 H2 : Hp} (x : SameBut a H H1) (y : SameBut a H1 H2) : SameBut a H H2 := fun b o n h => y b o n (x b o n h)
theorem SameBut.of {a : Addr} {H H' : Hp} (s : Same H H') : SameBut a H H' := fun b o _ h => s b o h
theorem SameBut.upd {a : Addr} {H : Hp} {o : HO} : SameBut a H (upd H a o) := fun b _ n h => by
  rw [upd_ne n]
  exact h
theorem same_new {H : Hp} {p : Addr} {o : HO} (h : H p = none) : Same H (upd H p o) := fun b x e => by
  rw [upd_ne (ne_of_none e h)]
  exact e
theorem Same.tup {K : PySem.W.Frag} {H H' : Hp} {a : Addr} {xs : List V} (e : Same H H') (h : SqT K H a xs) : SqT K H' a xs := by
  rcases h with (h | ⟨o, h⟩) | h
  · exact .inl (.inl (e _ _ h))
  · exact .inl (.inr ⟨o, e _ _ h⟩)
  · exact .inr h
theorem a0 {α : Type} {x : α} {l : List α} : atI (x :: l) 0 = some x := atI_nat (j := 0) rfl
theorem a1 {α : Type} {x y : α} {l : List α} : atI (x :: y :: l) 1 = some y := atI_nat (j := 1) rfl
theorem a2 {α : Type} {x y z : α} {l : List α} : atI (x :: y :: z :: l) 2 = some z := atI_nat (j := 2) rfl
theorem toB {p : Prop} [Decidable p] (h : decide p = true) : p := of_decide_eq_true h
theorem toNB {p : Prop} [Decidable p] (h : ¬ decide p = true) : ¬ p := fun z => h (decide_eq_true z)
/-- a well: the digits left, a number that is mixed, how many were mixed (at most c) -/
def WellAt (H : Hp) (a : Addr) (c : Int) : Prop := ∃ x y z : Int, H a = some (.lst [.int x, .int y, .int z]) ∧ 0 ≤ y ∧ y < 2147483647 ∧ 0 ≤ z ∧ z ≤ c
theorem WellAt.mono {H : Hp} {a : Addr} {c d : Int} (h : WellAt H a c) (l : c ≤ d) : WellAt H a d := by
  obtain ⟨x, y, z, e, h1, h2, h3, h4⟩ := h
  exact ⟨x, y, z, e, h1, h2, h3, by omega⟩
theorem WellAt.same {H H' : Hp} {a : Addr} {c : Int} (h : WellAt H a c) (s : Same H H') : WellAt H' a c := by
  obtain ⟨x, y, z, e, h1, h2, h3, h4⟩ := h
  exact ⟨x, y, z, s _ _ e, h1, h2, h3, h4⟩
theorem WellAt.but {H H' : Hp} {a b : Addr} {c : Int} (h : WellAt H a c) (s : SameBut b H H') (n : a ≠ b) : WellAt H' a c := by
  obtain ⟨x, y, z, e, h1, h2, h3, h4⟩ := h
  exact ⟨x, y, z, s _ _ n e, h1, h2, h3, h4⟩
/-! ### promises of the law's helpers -/
def spCell (K : PySem.W.Frag) : Sp := fun vs H Q _ => ∃ (a : Addr) (ns : List Int) (k : Nat), vs = [.ref a, .int k] ∧ SqL K H a (ns.map V.int) ∧ Q (.int (ns.getD k 0)) H
def spWell : Sp := fun vs H Q _ => ∃ c : Int, vs = [.int c] ∧ ∀ p : Addr, H p = none → ∀ H', Same H H' → WellAt H' p 0 → Q (.ref p) H'
/-- a number from 0 to below m; the well has at most one more -/
def spDraw : Sp := fun vs H Q _ => ∃ (a : Addr) (c m : Int), vs = [.ref a, .int m] ∧ WellAt H a c ∧ c ≤ 1000000000 ∧ 0 < m ∧ m.natAbs < 2 ^ 9000 ∧
  ∀ (r : Int) (H' : Hp), 0 ≤ r → r < m → SameBut a H H' → (∀ b, H b = none → H' b = none) → WellAt H' a (c + 1) → Q (.int r) H'
def topS (i : Nat) : Stmt := PySem.Challenge.pw_echobound_k92_nets_as_texts.main.body.getD i (.Pass ⟨0, 0, 0, 0⟩)
abbrev s__wall : Stmt := topS 0
abbrev s_is_whole : Stmt := topS 7
abbrev s_downward : Stmt := topS 9
abbrev s_upward : Stmt := topS 10
abbrev s_inward : Stmt := topS 11
abbrev s_outward : Stmt := topS 12
abbrev s_nearest_greater : Stmt := topS 13
abbrev s_nearest_even : Stmt := topS 14
abbrev s_nearest_far : Stmt := topS 15
abbrev s_is_manner : Stmt := topS 17
abbrev s_is_width : Stmt := topS 23
abbrev s_is_point : Stmt := topS 24
abbrev s_is_ends : Stmt := topS 25
abbrev s_is_place : Stmt := topS 35
abbrev s_is_factor : Stmt := topS 36
abbrev s_in_point : Stmt := topS 37
abbrev s_old_point : Stmt := topS 38
abbrev s_times_point : Stmt := topS 39
abbrev s_sum_point : Stmt := topS 40
abbrev s_move_point : Stmt := topS 41
abbrev s_keep_point : Stmt := topS 42
abbrev s_is_written_as_row : Stmt := topS 44
abbrev s_row_point : Stmt := topS 45
abbrev s_check_length : Stmt := topS 46
abbrev s_check_forms : Stmt := topS 47
abbrev s_is_hold : Stmt := topS 48
abbrev s_check_holds : Stmt := topS 49
abbrev s_checked_points : Stmt := topS 50
abbrev s_check_links : Stmt := topS 51
abbrev s_whole_of : Stmt := topS 59
abbrev s_wholes_of : Stmt := topS 60
abbrev s_show_row : Stmt := topS 61
abbrev s_show_net : Stmt := topS 62
abbrev s_check_text : Stmt := topS 63
abbrev s_form_of : Stmt := topS 64
abbrev s_part_of_line : Stmt := topS 65
abbrev s_parts_of_text : Stmt := topS 66
abbrev s_read_net : Stmt := topS 67
abbrev s__law_cell_at : Stmt := topS 69
abbrev s__law_well : Stmt := topS 70
abbrev s__law_draw : Stmt := topS 71
abbrev s__law_form : Stmt := topS 72
abbrev s__law_word : Stmt := topS 73
abbrev s__law_row : Stmt := topS 74
abbrev s__law_begin : Stmt := topS 75
abbrev s__law_mixed : Stmt := topS 76
abbrev s__law_link : Stmt := topS 77
abbrev s__law_net : Stmt := topS 78
abbrev s__law_made : Stmt := topS 79
abbrev s__law_lines : Stmt := topS 80
abbrev s_law : Stmt := topS 81
section
variable {P : Program} {w : World} {K : PySem.W.Frag} {mg : Str → Option Value} {base : Heap}
theorem sc__law_cell_at : FnScope ["_law_script", "_law_k"] ["_law_script", "_law_k"] (defScope s__law_cell_at) := ⟨rfl, rfl, rfl, by decide +kernel, rfl, by decide +kernel, by decide +kernel⟩
theorem sc__law_well : FnScope ["_law_cell"] ["_law_cell"] (defScope s__law_well) := ⟨rfl, rfl, rfl, by decide +kernel, rfl, by decide +kernel, by decide +kernel⟩
theorem sc__law_draw : FnScope ["_law_well_here", "_law_many", "_law_found", "_law_number"] ["_law_well_here", "_law_many"] (defScope s__law_draw) := ⟨rfl, rfl, rfl, by decide +kernel, rfl, by decide +kernel, by decide +kernel⟩
theorem ok_cell {f : Addr} {fd : FuncData} {k : Nat} (F : Fun K "_law_cell_at" "_law_cell_at" s__law_cell_at f fd) (zl : mg "len" = none) : FnOk P w K mg base CX0 (k + 1) f fd ["_law_script", "_law_k"] (spCell K) := by
  refine F.ok sc__law_cell_at (fun vs H Q E h => ?_) (fun cdv A outer s H vs Q E hr h => ?_)
  · obtain ⟨a, ns, k, rfl, _⟩ := h
    rfl
  · obtain ⟨a, ns, k, rfl, hS, q⟩ := h
    refine ⟨_, (pss_cons (ps_if (pt_cmpR op_lt (pv 1) (pe_callB call_len_seq (by rfl) zl PySem.boot_len (pa_cons (pv 0) pa_nil)) (nomark _)) (pss_one (ps_ret (pe_ix ix_list (pv 0) (pv 1) (fun _ _ => rfl)))) pss_nil)
      (pss_one (ps_ret pe_int))), ?_⟩
    refine ⟨_, rfl, _, rfl, a, _, rfl, .inl hS, _, _, rfl, rfl, _, rfl, ite2 (fun c => ?_) (fun c => ?_)⟩
    · have hk : k < ns.length := by
        have := toB c
        rw [List.length_map] at this
        omega
      refine ⟨_, rfl, _, rfl, a, _, k, .int (ns.getD k 0), rfl, rfl, hS, atI_nat ?_, q⟩
      rw [List.getElem?_map, List.getElem?_eq_getElem hk, List.getD_eq_getElem?_getD, List.getElem?_eq_getElem hk]
      rfl
    · have hk : ¬ k < ns.length := fun z => by
        have := toNB c
        rw [List.length_map] at this
        omega
      have e : ns.getD k 0 = 0 := by
        rw [List.getD_eq_getElem?_getD, List.getElem?_eq_none (by omega)]
        rfl
      rw [e] at q
      exact q
theorem ok_well {f : Addr} {fd : FuncData} {k : Nat} (F : Fun K "_law_well" "_law_well" s__law_well f fd) (zi : mg "int" = none) : FnOk P w K mg base CX0 (k + 1) f fd ["_law_cell"] spWell := by
  refine F.ok sc__law_well (fun vs H Q E h => ?_) (fun cdv A outer s H vs Q E hr h => ?_)
  · obtain ⟨c, rfl, _⟩ := h
    rfl
  · obtain ⟨c, rfl, q⟩ := h
    refine ⟨_, (pss_one (ps_ret (pe_lst (pa_cons (pe_op op_mul (pv 0) (pe_callTy call_int1 (by rfl) zi (by decide +kernel) (pa_cons (pe_cmpR op_ge (pv 0) (pe_op op_pow pe_int pe_int) (nomark _)) pa_nil))) (pa_cons (pe_op op_mod (pv 0) pe_int) (pa_cons pe_int pa_nil)))))), ?_⟩
    refine ⟨_, rfl, _, rfl, _, _, rfl, rfl, ⟨by decide, by decide, by decide⟩, _, _, rfl, rfl, .inr ⟨_, rfl, _, _, rfl, rfl, .inr ?_, ?_⟩⟩
    · split <;> decide
    · refine ⟨_, rfl, _, _, rfl, rfl, (by show (0 : Int) < 2147483647; decide), (by show 3 ≤ sizeLine; decide), fun p hp => ?_⟩
      exact q p hp _ (same_new hp) ⟨_, _, _, upd_same, Int.emod_nonneg _ (by decide), Int.emod_lt_of_pos _ (by decide), Int.le_refl _, Int.le_refl _⟩
theorem ok_draw {f : Addr} {fd : FuncData} {k : Nat} (F : Fun K "_law_draw" "_law_draw" s__law_draw f fd) : FnOk P w K mg base CX0 (k + 1) f fd ["_law_well_here", "_law_many"] spDraw := by
  refine F.ok sc__law_draw (fun vs H Q E h => ?_) (fun cdv A outer s H vs Q E hr h => ?_)
  · obtain ⟨a, c, m, rfl, _⟩ := h
    rfl
  · obtain ⟨a, c, m, rfl, ⟨x, y, z, hw, y0, y1, z0, z1⟩, hc, m0, m1, q⟩ := h
    have fr : ∀ o b, H b = none → (upd H a o) b = none := fun o b hb => by
      rw [upd_ne (fun e => by rw [e, hw] at hb; cases hb)]
      exact hb
    refine ⟨_, (pss_cons (ps_if (pt_cmpR op_gt (pe_ix ix_list (pv 0) pe_int (fun _ _ => rfl)) pe_int (nomark _)) (pss_cons (ps_set (i := 2) sc__law_draw.nd rfl (.inl rfl) (pe_op op_mod (pe_ix ix_list (pv 0) pe_int (fun _ _ => rfl)) (pv 1)))
      (pss_cons (ps_asg (pe_op op_fdivW (pe_ix ix_list (pv 0) pe_int (fun _ _ => rfl)) (pv 1)) (pg_sub (pv 0) pe_int set_list))
      (pss_one (ps_ret (pv 2))))) pss_nil)
      (pss_cons (ps_asg (pe_op op_add (pe_ix ix_list (pv 0) pe_int (fun _ _ => rfl)) pe_int) (pg_sub (pv 0) pe_int set_list))
      (pss_cons (ps_set (i := 3) sc__law_draw.nd rfl (.inl rfl) (pe_op op_mod (pe_op op_pow (pe_op op_add (pe_op op_add (pe_ix ix_list (pv 0) pe_int (fun _ _ => rfl)) (pe_op op_mul pe_int (pe_ix ix_list (pv 0) pe_int (fun _ _ => rfl)))) pe_int) pe_int) pe_int))
      (pss_cons (ps_set (i := 3) sc__law_draw.nd rfl (.inl rfl) (pe_op op_mod (pe_op op_mul (pv 3) (pe_op op_add (pe_op op_fdiv (pv 3) pe_int) pe_int)) pe_int))
      (pss_one (ps_ret (pe_op op_mod (pe_op op_mod (pe_op op_mul (pv 3) (pe_op op_add (pe_op op_fdiv (pv 3) pe_int) pe_int)) pe_int) (pv 1)))))))), ?_⟩
    refine ⟨_, rfl, a, _, 0, .int x, rfl, rfl, SqL.of hw, a0, x, 0, rfl, rfl, _, rfl, ite2 (fun c => ?_) (fun c => ?_)⟩
    · refine ⟨_, rfl, a, _, 0, .int x, rfl, rfl, SqL.of hw, a0, _, rfl, x, m, rfl, rfl, m0, ?_⟩
      refine ⟨_, rfl, a, _, 0, .int x, rfl, rfl, SqL.of hw, a0, _, rfl, x, m, rfl, rfl, wide_div m0 m1 (by decide) (Nat.le_refl _), _, rfl, a, _, 0, 0, rfl, rfl, hw, rfl, ?_⟩
      refine ⟨_, rfl, q _ _ (Int.emod_nonneg _ (by omega)) (Int.emod_lt_of_pos _ m0) SameBut.upd (fr _) ⟨_, _, _, upd_same, y0, y1, z0, by omega⟩⟩
    · refine ⟨_, rfl, a, _, 2, .int z, rfl, rfl, SqL.of hw, a2, z, 1, rfl, rfl, _, rfl, a, _, 2, 2, rfl, rfl, hw, rfl, ?_⟩
      have hw2 : (upd H a (.lst [V.int x, V.int y, V.int (z + 1)])) a = some (.lst [V.int x, V.int y, V.int (z + 1)]) := upd_same
      have n5 : 0 ≤ y + 7919 * (z + 1) + 1 ∧ y + 7919 * (z + 1) + 1 < 18446744073709551616 := by omega
      refine ⟨_, rfl, a, _, 1, .int y, rfl, rfl, SqL.of hw2, a1, _, rfl, a, _, 2, .int (z + 1), rfl, rfl, SqL.of hw2, a2, _, _, rfl, rfl, .inl ⟨by decide, by decide⟩, _, _, rfl, rfl, _, _, rfl, rfl, _, _, rfl, rfl, ⟨by decide, by decide, ?_⟩, _, _, rfl, rfl, (by show (0 : Int) < 2147483647; decide), ?_⟩
      · show (y + 7919 * (z + 1) + 1).natAbs < 18446744073709551616
        omega
      · generalize hn : (y + 7919 * (z + 1) + 1) ^ (5 : Int).toNat % 2147483647 = n
        have n0 : 0 ≤ n := by rw [← hn]; exact Int.emod_nonneg _ (by decide)
        have n1 : n < 2147483647 := by rw [← hn]; exact Int.emod_lt_of_pos _ (by decide)
        refine ⟨_, rfl, _, rfl, _, _, rfl, rfl, ⟨by decide, by decide⟩, _, _, rfl, rfl, _, _, rfl, rfl, .inl ⟨by omega, by omega⟩, _, _, rfl, rfl, (by show (0 : Int) < 2147483629; decide), ?_⟩
        generalize hm : n * (n / 1009 + 69621) % 2147483629 = u
        have u0 : 0 ≤ u := by rw [← hm]; exact Int.emod_nonneg _ (by decide)
        have u1 : u < 2147483629 := by rw [← hm]; exact Int.emod_lt_of_pos _ (by decide)
        refine ⟨_, rfl, _, rfl, _, _, rfl, rfl, ⟨by decide, by decide⟩, _, _, rfl, rfl, _, _, rfl, rfl, .inl ⟨by omega, by omega⟩, _, _, rfl, rfl, (by show (0 : Int) < 2147483587; decide), _, rfl, _, _, rfl, rfl, m0, ?_⟩
        exact q _ _ (Int.emod_nonneg _ (by omega)) (Int.emod_lt_of_pos _ m0) SameBut.upd (fr _) ⟨_, _, _, upd_same, y0, y1, by omega, by omega⟩
end
end E1

namespace E1
open PySem PySem.Spec PyProof.Rows L2
abbrev s_Form___init__ : Stmt := inClass (topS 26) 0
abbrev s_Form_least : Stmt := inClass (topS 26) 1
abbrev s_Form_greatest : Stmt := inClass (topS 26) 2
abbrev s_Form_has : Stmt := inClass (topS 26) 3
abbrev s_Form_step : Stmt := inClass (topS 26) 4
abbrev s_Form_slack : Stmt := inClass (topS 26) 5
abbrev s_Form_value : Stmt := inClass (topS 26) 6
abbrev s_Form_word_for : Stmt := inClass (topS 26) 7
abbrev s_Form_ended : Stmt := inClass (topS 26) 8
abbrev s_Form_kept : Stmt := inClass (topS 26) 9
abbrev s_Form_kept_at : Stmt := inClass (topS 26) 10
abbrev s_Form_bits : Stmt := inClass (topS 26) 11
abbrev s_Form_is_bits : Stmt := inClass (topS 26) 12
abbrev s_Form_word_of : Stmt := inClass (topS 26) 13
abbrev s_Form_added : Stmt := inClass (topS 26) 14
abbrev s_Form___eq__ : Stmt := inClass (topS 26) 15
abbrev s_Form___str__ : Stmt := inClass (topS 26) 16
abbrev s_Form___repr__ : Stmt := inClass (topS 26) 17
abbrev s_Net___init__ : Stmt := inClass (topS 52) 0
abbrev s_Net___eq__ : Stmt := inClass (topS 52) 10
abbrev s_Net___str__ : Stmt := inClass (topS 52) 11
abbrev s_Net___repr__ : Stmt := inClass (topS 52) 12
abbrev s_Net_forms : Stmt := inClass (topS 52) 1
abbrev s_Net_enters : Stmt := inClass (topS 52) 2
abbrev s_Net_rows : Stmt := inClass (topS 52) 3
abbrev s_Net_holds : Stmt := inClass (topS 52) 4
abbrev s_Net_out : Stmt := inClass (topS 52) 5
abbrev s_Net_points : Stmt := inClass (topS 52) 6
abbrev s_Net_keeps : Stmt := inClass (topS 52) 7
abbrev s_Net_start : Stmt := inClass (topS 52) 8
abbrev s_Net___len__ : Stmt := inClass (topS 52) 9
abbrev s_BadForm___init__ : Stmt := inClass (topS 3) 0

end E1

namespace E1
open PySem PySem.Spec PyProof.Rows L2

theorem bad_ini {P : Program} {w : World} {K : PySem.W.Frag} {mg : Str → Option Value} {C fI cc : Addr} (EC : PySem.ErrX.ErrC K mg "BadForm" C) (IC : PySem.ErrX.IniC P K mg C fI cc "BadForm.__init__" "part" s_BadForm___init__ .none) : PySem.ErrX.IniOk P w K mg C fI "part" := by
  refine ⟨IC.iC, IC.tC, fun A R s x t0 v MO hx hnx hroom fv hq => ?_⟩
  refine PySem.ErrX.err_init EC IC ⟨by decide +kernel, by decide +kernel, by decide +kernel, by decide +kernel, by decide +kernel⟩ rfl rfl ?_ ?_ rfl rfl MO hx hnx hroom fv ?_ hq
  · intro e he
    simp only [List.mem_cons, List.not_mem_nil, or_false] at he
    rcases he with rfl | rfl | rfl
    · exact .c (by decide)
    · exact .f
    · exact .c (by decide)
  · decide
  · intro kV doc pm an cda ct
    exact .of_eq rfl

/-! ### error classes over the small head -/
abbrev IniV : Type := Option (Str × Str × Arguments × FuncBody × Scope × Addr × List Str × Addr)
def iniA (K : PySem.W.Frag) (x : Str) : Addr := He.ma K (He.ga K x) "__init__"
def iniF (K : PySem.W.Frag) (x : Str) : Option FuncData := match K.lookup (iniA K x) with
  | some ⟨_, _, .func fd, _⟩ => some fd
  | _ => none
def iniW (K : PySem.W.Frag) (x : Str) : IniV := (iniF K x).map fun fd => (fd.name, fd.qualname, fd.params, fd.body, fd.scope, fd.globals, fd.closure.map (·.1), fd.builtins)
structure ErrD where
  x : Str
  qual : Str
  params : Arguments
  body : List Stmt
  scope : Scope
  one : Bool
def ErrD.val (d : ErrD) : IniV := some ("__init__", d.qual, d.params, .stmts d.body, d.scope, mainGlobals, ["__class__"], builtinsNs)
/-- one default, or none -/
def iniD (K : PySem.W.Frag) (one : Bool) (v : Value) : Bool := match one, v with
  | false, v => decide (v = .none)
  | true, .ref T => (match K.lookup T with
    | some ⟨_, _, .seq its _, _⟩ => decide (its.size = 1)
    | _ => false)
  | true, _ => false
def iniS (v : Option Value) : Bool := match v with
  | some (.str f _) => decide (f = ("/claim/cut.py" : Str))
  | _ => false
def iniC (K : PySem.W.Frag) (qual : Str) (v : Value) : Bool := match v with
  | .ref c => PySem.W.codeIn K (.ref c) qual && (match K.lookup c with
    | some ⟨_, _, .fields vs, _⟩ => iniS (vs[2]?)
    | _ => false)
  | _ => false
def iniL (K : PySem.W.Frag) (x : Str) (l : List (Str × Addr)) : Bool := match l with
  | [(_, c)] => (match K.lookup c with
    | some ⟨_, _, .cell (some v), _⟩ => decide (v = .ref (He.ga K x))
    | _ => false)
  | _ => false
def ErrD.ok (K : PySem.W.Frag) (d : ErrD) : Bool := match iniF K d.x with
  | some fd => iniD K d.one fd.defaults && (iniC K d.qual fd.code && iniL K d.x fd.closure)
  | none => false
structure IniHas (prog : Program) (K : PySem.W.Frag) (d : ErrD) (cc : Addr) (dV : Value) : Prop where
  fn : ∃ (oc : Value) (od : Option Addr) (kV doc pm : Value) (an : Option Addr) (cda : Addr) (ct : Value) (osl : Array (Option Value)),
    K.lookup (iniA K d.x) = some ⟨oc, od, .func (PySem.W.ksFn "__init__" d.qual d.params d.body d.scope dV kV doc pm an (.ref cda) ct cc), osl⟩ ∧ PySem.W.codeIn K (.ref cda) d.qual = true ∧
    ∃ (ccl : Value) (cdd : Option Addr) (vs : Array Value) (ccs : Array (Option Value)) (file : Str) (tf : Tok), K.lookup cda = some ⟨ccl, cdd, .fields vs, ccs⟩ ∧ vs[2]? = some (.str file tf) ∧ ((prog.main.file : Str) == file) = true
  cell : ∃ (cl : Value) (cld : Option Addr) (csl : Array (Option Value)), K.lookup cc = some ⟨cl, cld, .cell (some (.ref (He.ga K d.x))), csl⟩
  dfl : iniD K d.one dV = true
theorem iniC_ok {K : PySem.W.Frag} {qual : Str} {v : Value} (h : iniC K qual v = true) : ∃ c, v = .ref c ∧ PySem.W.codeIn K (.ref c) qual = true ∧ ∃ (ccl : Value) (cdd : Option Addr) (vs : Array Value) (ccs : Array (Option Value)) (tf : Tok), K.lookup c = some ⟨ccl, cdd, .fields vs, ccs⟩ ∧ vs[2]? = some (.str "/claim/cut.py" tf) := by
  cases v with
  | ref c =>
    obtain ⟨h1, h2⟩ := He.ba (show (_ && _) = true from h)
    refine ⟨c, rfl, h1, ?_⟩
    cases e : K.lookup c with
    | none =>
      rw [e] at h2
      cases h2
    | some o =>
      rw [e] at h2
      obtain ⟨oc, od, dt, sl⟩ := o
      cases dt with
      | fields vs =>
        replace h2 : iniS (vs[2]?) = true := h2
        cases e2 : vs[2]? with
        | none =>
          rw [e2] at h2
          cases h2
        | some u =>
          rw [e2] at h2
          cases u with
          | str f tf =>
            have e3 : f = ("/claim/cut.py" : Str) := of_decide_eq_true h2
            subst e3
            exact ⟨_, _, _, _, _, rfl, e2⟩
          | _ => cases h2
      | _ => cases h2
  | _ => cases h
theorem iniL_ok {K : PySem.W.Frag} {x : Str} {l : List (Str × Addr)} (h : iniL K x l = true) (hl : l.map (·.1) = [("__class__" : Str)]) : ∃ c, l = [(("__class__" : Str), c)] ∧ ∃ (cl : Value) (cld : Option Addr) (csl : Array (Option Value)), K.lookup c = some ⟨cl, cld, .cell (some (.ref (He.ga K x))), csl⟩ := by
  match l, hl, h with
  | [(n, c)], hl, h =>
    cases hl
    refine ⟨c, rfl, ?_⟩
    replace h : (match K.lookup c with
      | some ⟨_, _, .cell (some v), _⟩ => decide (v = .ref (He.ga K x))
      | _ => false) = true := h
    cases e : K.lookup c with
    | none =>
      rw [e] at h
      cases h
    | some o =>
      rw [e] at h
      obtain ⟨oc, od, dt, sl⟩ := o
      cases dt with
      | cell v =>
        cases v with
        | none => cases h
        | some v =>
          have e3 : v = .ref (He.ga K x) := of_decide_eq_true h
          subst e3
          exact ⟨_, _, _, rfl⟩
      | _ => cases h
theorem errD_ok {prog : Program} {K : PySem.W.Frag} {d : ErrD} (hf : (prog.main.file : Str) = "/claim/cut.py") (e : iniW K d.x = d.val) (c : d.ok K = true) : ∃ cc dV, IniHas prog K d cc dV := by
  unfold iniW at e
  unfold ErrD.ok at c
  cases q : iniF K d.x with
  | none =>
    rw [q] at c
    cases c
  | some fd =>
    rw [q] at c e
    obtain ⟨c1, c2⟩ := He.ba c
    obtain ⟨c3, c4⟩ := He.ba c2
    have lk : ∃ oc od sl, K.lookup (iniA K d.x) = some ⟨oc, od, .func fd, sl⟩ := by
      unfold iniF at q
      cases e1 : K.lookup (iniA K d.x) with
      | none =>
        rw [e1] at q
        cases q
      | some o =>
        rw [e1] at q
        obtain ⟨oc, od, dt, sl⟩ := o
        cases dt with
        | func fd2 =>
          cases q
          exact ⟨_, _, _, rfl⟩
        | _ => cases q
    obtain ⟨n1, n2, n3, n4, n5, n6, n7, n8, n9, n10, n11, n12, n13, n14, n15⟩ := fd
    have e2 : (some (n1, n2, n3, n4, n5, n6, n7.map (·.1), n15) : IniV) = (some (("__init__" : Str), d.qual, d.params, FuncBody.stmts d.body, d.scope, mainGlobals, [("__class__" : Str)], builtinsNs) : IniV) := e
    simp only [Option.some.injEq, Prod.mk.injEq] at e2
    obtain ⟨h1, h2, h3, h4, h5, h6, h7, h8⟩ := e2
    subst h1 h2 h3 h4 h5 h6 h8
    obtain ⟨cda, ec, k1, ccl, cdd, vs, ccs, tf, k2, k3⟩ := iniC_ok c3
    obtain ⟨cc, el, kl⟩ := iniL_ok c4 h7
    replace ec : n13 = .ref cda := ec
    replace el : n7 = [(("__class__" : Str), cc)] := el
    subst ec el
    obtain ⟨oc, od, sl, lk⟩ := lk
    exact ⟨cc, n8, ⟨oc, od, n9, n10, n11, n12, cda, n14, sl, lk, k1, ccl, cdd, vs, ccs, _, tf, k2, k3, by rw [hf]; exact beq_self_eq_true _⟩, kl, c1⟩
theorem iniD_one {K : PySem.W.Frag} {v : Value} (h : iniD K true v = true) : ∃ T, v = .ref T ∧ ∃ (to : Value) (td : Option Addr) (its : Array Value) (tn : Nat) (ts : Array (Option Value)), K.lookup T = some ⟨to, td, .seq its tn, ts⟩ ∧ its.size = 1 := by
  cases v with
  | ref T =>
    refine ⟨T, rfl, ?_⟩
    replace h : (match K.lookup T with
      | some ⟨_, _, .seq its _, _⟩ => decide (its.size = 1)
      | _ => false) = true := h
    cases e : K.lookup T with
    | none =>
      rw [e] at h
      cases h
    | some o =>
      rw [e] at h
      obtain ⟨oc, od, dt, sl⟩ := o
      cases dt with
      | seq its n => exact ⟨_, _, _, _, _, rfl, of_decide_eq_true h⟩
      | _ => cases h
  | _ => cases h

theorem bad_ini2 {P : Program} {w : World} {K : PySem.W.Frag} {mg : Str → Option Value} {C fI cc : Addr} {dV : Value} (hd : iniD K false dV = true) (EC : PySem.ErrX.ErrC K mg "BadForm" C) (IC : PySem.ErrX.IniC P K mg C fI cc "BadForm.__init__" "part" s_BadForm___init__ dV) : PySem.ErrX.IniOk P w K mg C fI "part" := by
  have e : dV = .none := of_decide_eq_true hd
  subst e
  exact bad_ini EC IC
/-! ### keys of a dict of the module, and tuples that are its values -/
def keyZ (e : DictEntry) : Option Str := match e.key with
  | .str z _ => some z
  | _ => none
def keyB (K : PySem.W.Frag) (x : Str) (ks : List Str) : Bool := match K.lookup (He.ga K x) with
  | some ⟨_, _, .dict es _, _⟩ => decide (es.toList.map keyZ = ks.map some)
  | _ => false
theorem keyB_at {K : PySem.W.Frag} {w : World} {A : Addr} {es : Array DictEntry} {n : Nat} {x : Str} {ks : List Str} (D : KDict K w A es n) (e : He.ga K x = A) (h : keyB K x ks = true) : es.toList.map keyZ = ks.map some := by
  unfold keyB at h
  rw [e, D.at_] at h
  exact of_decide_eq_true h
theorem keyZ_some {e : DictEntry} {z : Str} (h : keyZ e = some z) : ∃ t, e.key = .str z t := by
  unfold keyZ at h
  split at h
  · next y t q =>
    cases h
    exact ⟨t, q⟩
  · cases h
def tupAt (K : PySem.W.Frag) (t : Addr) (vs : List V) : Bool := match K.lookup t with
  | some ⟨c, _, .seq its _, _⟩ => decide (c = .type "tuple") && (decide (its.size ≤ sizeLine) && He.relAll vs its.toList)
  | _ => false
theorem tupAt_ok {K : PySem.W.Frag} {t : Addr} {vs : List V} (h : tupAt K t vs = true) (H : Hp) : SqT K H t vs := by
  unfold tupAt at h
  split at h
  · next c d its n sl q =>
    obtain ⟨h1, h2⟩ := He.ba h
    obtain ⟨h3, h4⟩ := He.ba h2
    exact .inr ⟨_, its, n, q, of_decide_eq_true h1, rfl, of_decide_eq_true h3, He.relAll_ok h4⟩
  · cases h
def pvB (K : PySem.W.Frag) (x k : Str) (vs : List V) : Bool := match PySem.W.nsIn K (He.ga K x) k with
  | some (some (.ref t)) => tupAt K t vs
  | _ => false
theorem pvB_ok {K : PySem.W.Frag} {x k : Str} {A : Addr} {vs : List V} (e : He.ga K x = A) (h : pvB K x k vs = true) : ∃ t, PySem.W.nsIn K A k = some (some (.ref t)) ∧ ∀ H, SqT K H t vs := by
  unfold pvB at h
  rw [e] at h
  split at h
  · next t q => exact ⟨t, q, tupAt_ok h⟩
  · cases h
end E1

namespace E1
open PySem PySem.Spec PyProof.Rows L2

theorem Vals.rev : ∀ {xs : List V} {us : List Value}, Vals xs us → Vals xs.reverse us.reverse
  | _, _, .nil => .nil
  | _, _, .cons r t => by
    rw [List.reverse_cons, List.reverse_cons]
    exact Vals.append (Vals.rev t) (.cons r .nil)
section
variable {P : Program} {w : World} {K : PySem.W.Frag} {mg : Str → Option Value} {base : Heap} {x : Str} {st : Stmt} {f : Addr} {fd : FuncData} {ps ks : List Str} {k n : Nat} {sp : Sp}
/-- a def without defaults: its arguments by keywords alone or behind others -/
theorem Fun.kbn {qual : Str} (F : Fun K x qual st f fd) {g : List Value → List Value → List Value} {gV : List V → List V → List V} (hrel : ∀ {vs : List V} {us : List Value} {zs : List V} {ws : List Value}, Vals vs us → Vals zs ws → Vals (gV vs zs) (g us ws))
    (h : ∀ (kV doc pm : Value) (an : Option Addr) (cdv ct : Value) (us ws : List Value), us.length = n → ws.length = ks.length → bindArgs (PySem.W.fnOf x qual (defArgs st) (defBody st) (defScope st) .none kV doc pm an cdv ct) ⟨us, ks.zip ws⟩ = pure (ps.zip (g us ws))) : KBn K fd ps n ks g gV := by
  rcases F.ex with ⟨_, _, v1, v2, v3, v4, v5, v6, _, same, _, _⟩
  subst same
  exact ⟨fun s us ws _ l1 l2 => .of_eq (h v1 v2 v3 v4 v5 v6 us ws l1 l2), hrel⟩
/-- a def with defaults, all arguments given -/
theorem FunD.kbn {qual : Str} {params : Arguments} {body : List Stmt} {scope : Scope} {dvs : List V} {kws : List (Str × V)} (F : FunD K x qual params body scope dvs kws f fd) (hd : dvs ≠ []) {g : List Value → List Value → List Value} {gV : List V → List V → List V} (hrel : ∀ {vs : List V} {us : List Value} {zs : List V} {ws : List Value}, Vals vs us → Vals zs ws → Vals (gV vs zs) (g us ws))
    (h : ∀ (T : Addr) (kV doc pm : Value) (an : Option Addr) (cdv ct : Value) (us ws its : List Value), us.length = n → ws.length = ks.length → its.length = dvs.length → ∃ k, bindArgs (PySem.W.fnOf x qual params body scope (.ref T) kV doc pm an cdv ct) ⟨us, ks.zip ws⟩ = seqItems? (.ref T) >>= k ∧ k (some its.toArray) = pure (ps.zip (g us ws))) : KBn K fd ps n ks g gV := by
  rcases F.ex with ⟨_, _, _, v1, v2, v3, v4, v5, v6, _, same, _, _, bare | given, _⟩
  · exact absurd bare.1 hd
  · rcases given with ⟨_, T, _, its, _, dv, at_, it, rel⟩
    subst same dv
    refine ⟨fun s us ws inn l1 l2 => BindsTo.of_looks fun M => ?_, hrel⟩
    rcases h T v1 v2 v3 v4 v5 v6 us ws its l1 l2 rel.length.symm with ⟨go, b1, b2⟩
    rw [b1]
    exact looks_items inn at_ it (.of_pure b2)
end

theorem fun_of {K : PySem.W.Frag} {x qual : Str} {st : Stmt} {f : Addr} {fd : FuncData} (F : FunD K x qual (defArgs st) (defBody st) (defScope st) [] [] f fd) : Fun K x qual st f fd := by
  obtain ⟨oc, od, dV, kV, doc, pm, an, cdv, ct, osl, e, lk, hcd, hd, _⟩ := F.ex
  rcases hd with ⟨_, rfl⟩ | ⟨n, _⟩
  · exact ⟨⟨oc, od, kV, doc, pm, an, cdv, ct, osl, e, lk, hcd⟩, F.kp⟩
  · exact absurd rfl n
theorem ex_at {l : List Bool} (h : (l.all id) = true) {i : Nat} {b : Bool} (e : l[i]? = some b) : b = true := List.all_eq_true.mp h b (List.mem_of_getElem? e)
theorem val_int {K : PySem.W.Frag} {a : Addr} {kvs : List (Str × He.Dv)} (h : He.valsB K a kvs = true) {i : Nat} {k : Str} {v : Int} (e : kvs[i]? = some (k, .int v)) : ∃ t, PySem.W.nsIn K a k = some (some (.int v t)) := by
  obtain ⟨u, e1, r⟩ := He.valsB_ok h (List.mem_of_getElem? e)
  obtain ⟨t, rfl⟩ := r
  exact ⟨t, e1⟩
/-- the head's facts, of these addresses -/
abbrev AlY : Type := He.AlT × Bool × List IniV
def obsY (as : List Addr) (fa : List He.Fa) (fn : List He.DefD) (ts : List He.Tab) (ex : PySem.W.Frag → Bool) (er : List ErrD) (g : Addr → Option Obj) : AlY := (He.obsT fa fn ts (He.frG g as), ex (He.frG g as), er.map fun d => iniW (He.frG g as) d.x)
structure SaysY (fa : List He.Fa) (fn : List He.DefD) (ts : List He.Tab) (ex : PySem.W.Frag → Bool) (er : List ErrD) (w : World) (K : PySem.W.Frag) : Prop where
  t : He.SaysT fa fn ts w K
  more : ex K = true
  ini : (er.map fun d => iniW K d.x) = er.map ErrD.val
def hookY (as : List Addr) (fa : List He.Fa) (fn : List He.DefD) (ts : List He.Tab) (ex : PySem.W.Frag → Bool) (er : List ErrD) : PySem.W.Hook where
  α := AlY
  obs := fun s => obsY as fa fn ts ex er s.heap.get?
  val := fun w => (He.valT fn ts w, true, er.map ErrD.val)
  says := fun w h => ∃ K : PySem.W.Frag, K.In h ∧ SaysY fa fn ts ex er w K
  of := fun _ _ e => ⟨_, He.frG_in, congrArg (fun z : AlY => z.1) e, congrArg (fun z : AlY => z.2.1) e, congrArg (fun z : AlY => z.2.2) e⟩
  keeps := fun _ _ _ ⟨K, hK, c⟩ k => ⟨K, PySem.W.Frag.In.keeps hK k, c⟩
theorem obsY_eq {as : List Addr} {fa : List He.Fa} {fn : List He.DefD} {ts : List He.Tab} {ex : PySem.W.Frag → Bool} {er : List ErrD} {g : Addr → Option Obj} {s : Shared} (h : ∀ a, g a = s.heap.get? a) : obsY as fa fn ts ex er g = (hookY as fa fn ts ex er).obs s := by
  have e : g = s.heap.get? := funext h
  rw [e]
  rfl
theorem ini_at {K : PySem.W.Frag} {er : List ErrD} (h : (er.map fun d => iniW K d.x) = er.map ErrD.val) {i : Nat} {d : ErrD} (e : er[i]? = some d) : iniW K d.x = d.val := by
  have h2 : (er.map fun d => iniW K d.x)[i]? = (er.map ErrD.val)[i]? := by rw [h]
  rw [List.getElem?_map, List.getElem?_map, e] at h2
  exact Option.some.inj h2
def dd_is_whole : He.DefD := ⟨("is_whole", none), "is_whole", "is_whole", defArgs s_is_whole, defBody s_is_whole, defScope s_is_whole, [], []⟩
def dd_downward : He.DefD := ⟨("downward", none), "downward", "downward", defArgs s_downward, defBody s_downward, defScope s_downward, [], []⟩
def dd_upward : He.DefD := ⟨("upward", none), "upward", "upward", defArgs s_upward, defBody s_upward, defScope s_upward, [], []⟩
def dd_inward : He.DefD := ⟨("inward", none), "inward", "inward", defArgs s_inward, defBody s_inward, defScope s_inward, [], []⟩
def dd_outward : He.DefD := ⟨("outward", none), "outward", "outward", defArgs s_outward, defBody s_outward, defScope s_outward, [], []⟩
def dd_nearest_greater : He.DefD := ⟨("nearest_greater", none), "nearest_greater", "nearest_greater", defArgs s_nearest_greater, defBody s_nearest_greater, defScope s_nearest_greater, [], []⟩
def dd_nearest_even : He.DefD := ⟨("nearest_even", none), "nearest_even", "nearest_even", defArgs s_nearest_even, defBody s_nearest_even, defScope s_nearest_even, [], []⟩
def dd_nearest_far : He.DefD := ⟨("nearest_far", none), "nearest_far", "nearest_far", defArgs s_nearest_far, defBody s_nearest_far, defScope s_nearest_far, [], []⟩
def dd_is_manner : He.DefD := ⟨("is_manner", none), "is_manner", "is_manner", defArgs s_is_manner, defBody s_is_manner, defScope s_is_manner, [], []⟩
def dd_is_width : He.DefD := ⟨("is_width", none), "is_width", "is_width", defArgs s_is_width, defBody s_is_width, defScope s_is_width, [], []⟩
def dd_is_point : He.DefD := ⟨("is_point", none), "is_point", "is_point", defArgs s_is_point, defBody s_is_point, defScope s_is_point, [], []⟩
def dd_is_ends : He.DefD := ⟨("is_ends", none), "is_ends", "is_ends", defArgs s_is_ends, defBody s_is_ends, defScope s_is_ends, [], []⟩
def dd_is_place : He.DefD := ⟨("is_place", none), "is_place", "is_place", defArgs s_is_place, defBody s_is_place, defScope s_is_place, [], []⟩
def dd_is_factor : He.DefD := ⟨("is_factor", none), "is_factor", "is_factor", defArgs s_is_factor, defBody s_is_factor, defScope s_is_factor, [], []⟩
def dd_in_point : He.DefD := ⟨("in_point", none), "in_point", "in_point", defArgs s_in_point, defBody s_in_point, defScope s_in_point, [], []⟩
def dd_old_point : He.DefD := ⟨("old_point", none), "old_point", "old_point", defArgs s_old_point, defBody s_old_point, defScope s_old_point, [], []⟩
def dd_times_point : He.DefD := ⟨("times_point", none), "times_point", "times_point", defArgs s_times_point, defBody s_times_point, defScope s_times_point, [], []⟩
def dd_sum_point : He.DefD := ⟨("sum_point", none), "sum_point", "sum_point", defArgs s_sum_point, defBody s_sum_point, defScope s_sum_point, [], []⟩
def dd_move_point : He.DefD := ⟨("move_point", none), "move_point", "move_point", defArgs s_move_point, defBody s_move_point, defScope s_move_point, [], []⟩
def dd_keep_point : He.DefD := ⟨("keep_point", none), "keep_point", "keep_point", defArgs s_keep_point, defBody s_keep_point, defScope s_keep_point, [], []⟩
def dd_is_written_as_row : He.DefD := ⟨("is_written_as_row", none), "is_written_as_row", "is_written_as_row", defArgs s_is_written_as_row, defBody s_is_written_as_row, defScope s_is_written_as_row, [], []⟩
def dd_row_point : He.DefD := ⟨("row_point", none), "row_point", "row_point", defArgs s_row_point, defBody s_row_point, defScope s_row_point, [], []⟩
def dd_check_length : He.DefD := ⟨("check_length", none), "check_length", "check_length", defArgs s_check_length, defBody s_check_length, defScope s_check_length, [], []⟩
def dd_check_forms : He.DefD := ⟨("check_forms", none), "check_forms", "check_forms", defArgs s_check_forms, defBody s_check_forms, defScope s_check_forms, [], []⟩
def dd_is_hold : He.DefD := ⟨("is_hold", none), "is_hold", "is_hold", defArgs s_is_hold, defBody s_is_hold, defScope s_is_hold, [], []⟩
def dd_check_holds : He.DefD := ⟨("check_holds", none), "check_holds", "check_holds", defArgs s_check_holds, defBody s_check_holds, defScope s_check_holds, [], []⟩
def dd_checked_points : He.DefD := ⟨("checked_points", none), "checked_points", "checked_points", defArgs s_checked_points, defBody s_checked_points, defScope s_checked_points, [], []⟩
def dd_check_links : He.DefD := ⟨("check_links", none), "check_links", "check_links", defArgs s_check_links, defBody s_check_links, defScope s_check_links, [], []⟩
def dd_whole_of : He.DefD := ⟨("whole_of", none), "whole_of", "whole_of", defArgs s_whole_of, defBody s_whole_of, defScope s_whole_of, [], []⟩
def dd_wholes_of : He.DefD := ⟨("wholes_of", none), "wholes_of", "wholes_of", defArgs s_wholes_of, defBody s_wholes_of, defScope s_wholes_of, [], []⟩
def dd_show_row : He.DefD := ⟨("show_row", none), "show_row", "show_row", defArgs s_show_row, defBody s_show_row, defScope s_show_row, [], []⟩
def dd_show_net : He.DefD := ⟨("show_net", none), "show_net", "show_net", defArgs s_show_net, defBody s_show_net, defScope s_show_net, [], []⟩
def dd_check_text : He.DefD := ⟨("check_text", none), "check_text", "check_text", defArgs s_check_text, defBody s_check_text, defScope s_check_text, [], []⟩
def dd_form_of : He.DefD := ⟨("form_of", none), "form_of", "form_of", defArgs s_form_of, defBody s_form_of, defScope s_form_of, [], []⟩
def dd_part_of_line : He.DefD := ⟨("part_of_line", none), "part_of_line", "part_of_line", defArgs s_part_of_line, defBody s_part_of_line, defScope s_part_of_line, [], []⟩
def dd_parts_of_text : He.DefD := ⟨("parts_of_text", none), "parts_of_text", "parts_of_text", defArgs s_parts_of_text, defBody s_parts_of_text, defScope s_parts_of_text, [], []⟩
def dd_read_net : He.DefD := ⟨("read_net", none), "read_net", "read_net", defArgs s_read_net, defBody s_read_net, defScope s_read_net, [], []⟩
def dd__law_cell_at : He.DefD := ⟨("_law_cell_at", none), "_law_cell_at", "_law_cell_at", defArgs s__law_cell_at, defBody s__law_cell_at, defScope s__law_cell_at, [], []⟩
def dd__law_well : He.DefD := ⟨("_law_well", none), "_law_well", "_law_well", defArgs s__law_well, defBody s__law_well, defScope s__law_well, [], []⟩
def dd__law_draw : He.DefD := ⟨("_law_draw", none), "_law_draw", "_law_draw", defArgs s__law_draw, defBody s__law_draw, defScope s__law_draw, [], []⟩
def dd__law_form : He.DefD := ⟨("_law_form", none), "_law_form", "_law_form", defArgs s__law_form, defBody s__law_form, defScope s__law_form, [], []⟩
def dd__law_word : He.DefD := ⟨("_law_word", none), "_law_word", "_law_word", defArgs s__law_word, defBody s__law_word, defScope s__law_word, [], []⟩
def dd__law_row : He.DefD := ⟨("_law_row", none), "_law_row", "_law_row", defArgs s__law_row, defBody s__law_row, defScope s__law_row, [], []⟩
def dd__law_begin : He.DefD := ⟨("_law_begin", none), "_law_begin", "_law_begin", defArgs s__law_begin, defBody s__law_begin, defScope s__law_begin, [], []⟩
def dd__law_mixed : He.DefD := ⟨("_law_mixed", none), "_law_mixed", "_law_mixed", defArgs s__law_mixed, defBody s__law_mixed, defScope s__law_mixed, [], []⟩
def dd__law_link : He.DefD := ⟨("_law_link", none), "_law_link", "_law_link", defArgs s__law_link, defBody s__law_link, defScope s__law_link, [], []⟩
def dd__law_net : He.DefD := ⟨("_law_net", none), "_law_net", "_law_net", defArgs s__law_net, defBody s__law_net, defScope s__law_net, [], []⟩
def dd__law_made : He.DefD := ⟨("_law_made", none), "_law_made", "_law_made", defArgs s__law_made, defBody s__law_made, defScope s__law_made, [], []⟩
def dd__law_lines : He.DefD := ⟨("_law_lines", none), "_law_lines", "_law_lines", defArgs s__law_lines, defBody s__law_lines, defScope s__law_lines, [], []⟩
def dd_law : He.DefD := ⟨("law", none), "law", "law", defArgs s_law, defBody s_law, defScope s_law, [], []⟩
def ed_CB : ErrD := ⟨"BadForm", "BadForm.__init__", defArgs s_BadForm___init__, defBody s_BadForm___init__, defScope s_BadForm___init__, false⟩
def dd_Form_least : He.DefD := ⟨("Form", some "least"), "least", "Form.least", defArgs s_Form_least, defBody s_Form_least, defScope s_Form_least, [], []⟩
def dd_Form_greatest : He.DefD := ⟨("Form", some "greatest"), "greatest", "Form.greatest", defArgs s_Form_greatest, defBody s_Form_greatest, defScope s_Form_greatest, [], []⟩
def dd_Form_has : He.DefD := ⟨("Form", some "has"), "has", "Form.has", defArgs s_Form_has, defBody s_Form_has, defScope s_Form_has, [], []⟩
def dd_Form___eq__ : He.DefD := ⟨("Form", some "__eq__"), "__eq__", "Form.__eq__", defArgs s_Form___eq__, defBody s_Form___eq__, defScope s_Form___eq__, [], []⟩
def dd_Form___str__ : He.DefD := ⟨("Form", some "__str__"), "__str__", "Form.__str__", defArgs s_Form___str__, defBody s_Form___str__, defScope s_Form___str__, [], []⟩
def dd_Net_forms : He.DefD := ⟨("Net", some "forms"), "forms", "Net.forms", defArgs s_Net_forms, defBody s_Net_forms, defScope s_Net_forms, [], []⟩
def dd_Net_rows : He.DefD := ⟨("Net", some "rows"), "rows", "Net.rows", defArgs s_Net_rows, defBody s_Net_rows, defScope s_Net_rows, [], []⟩
def dd_Net_holds : He.DefD := ⟨("Net", some "holds"), "holds", "Net.holds", defArgs s_Net_holds, defBody s_Net_holds, defScope s_Net_holds, [], []⟩
def dd_Net_enters : He.DefD := ⟨("Net", some "enters"), "enters", "Net.enters", defArgs s_Net_enters, defBody s_Net_enters, defScope s_Net_enters, [], []⟩
def dd_Net_out : He.DefD := ⟨("Net", some "out"), "out", "Net.out", defArgs s_Net_out, defBody s_Net_out, defScope s_Net_out, [], []⟩
def dd_Net___eq__ : He.DefD := ⟨("Net", some "__eq__"), "__eq__", "Net.__eq__", defArgs s_Net___eq__, defBody s_Net___eq__, defScope s_Net___eq__, [], []⟩
def dd_Net___init__ : He.DefD := ⟨("Net", some "__init__"), "__init__", "Net.__init__", defArgs s_Net___init__, defBody s_Net___init__, defScope s_Net___init__, [], []⟩
def dd_Form___init__ : He.DefD := ⟨("Form", some "__init__"), "__init__", "Form.__init__", defArgs s_Form___init__, defBody s_Form___init__, defScope s_Form___init__, [.non, .int 0, .str "half", .str "wrap"], []⟩
def FN_0 : List He.DefD := [dd_is_whole, dd_downward, dd_upward, dd_inward, dd_outward, dd_nearest_greater, dd_nearest_even, dd_nearest_far, dd_is_manner, dd_is_width, dd_is_point, dd_is_ends, dd_is_place, dd_is_factor, dd_in_point, dd_old_point, dd_times_point, dd_sum_point, dd_move_point, dd_keep_point]
def FN_1 : List He.DefD := [dd_is_written_as_row, dd_row_point, dd_check_length, dd_check_forms, dd_is_hold, dd_check_holds, dd_checked_points, dd_check_links, dd_whole_of, dd_wholes_of, dd_show_row, dd_show_net, dd_check_text, dd_form_of, dd_part_of_line, dd_parts_of_text, dd_read_net, dd__law_cell_at, dd__law_well, dd__law_draw]
def FN_2 : List He.DefD := [dd__law_form, dd__law_word, dd__law_row, dd__law_begin, dd__law_mixed, dd__law_link, dd__law_net, dd__law_made, dd__law_lines, dd_law, dd_Form_least, dd_Form_greatest, dd_Form_has, dd_Form___eq__, dd_Form___str__, dd_Net_forms, dd_Net_rows, dd_Net_holds, dd_Net_enters, dd_Net_out]
def FN_3 : List He.DefD := [dd_Net___eq__, dd_Net___init__, dd_Form___init__]
def FN : List He.DefD := FN_0 ++ (FN_1 ++ (FN_2 ++ (FN_3)))
def FA_0 : List He.Fa := [.glo "is_whole", .glo "downward", .glo "upward", .glo "inward", .glo "outward", .glo "nearest_greater", .glo "nearest_even", .glo "nearest_far", .glo "is_manner", .glo "is_width", .glo "is_point", .glo "is_ends", .glo "is_place", .glo "is_factor", .glo "in_point", .glo "old_point", .glo "times_point", .glo "sum_point", .glo "move_point", .glo "keep_point"]
def FA_1 : List He.Fa := [.glo "is_written_as_row", .glo "row_point", .glo "check_length", .glo "check_forms", .glo "is_hold", .glo "check_holds", .glo "checked_points", .glo "check_links", .glo "whole_of", .glo "wholes_of", .glo "show_row", .glo "show_net", .glo "check_text", .glo "form_of", .glo "part_of_line", .glo "parts_of_text", .glo "read_net", .glo "_law_cell_at", .glo "_law_well", .glo "_law_draw"]
def FA_2 : List He.Fa := [.glo "_law_form", .glo "_law_word", .glo "_law_row", .glo "_law_begin", .glo "_law_mixed", .glo "_law_link", .glo "_law_net", .glo "_law_made", .glo "_law_lines", .glo "law", .glo "Form", .cls "Form", .mkr "Form", .noat "Form" "width", .noat "Form" "point", .noat "Form" "manner", .noat "Form" "ends", .glo "Net", .cls "Net", .mkr "Net"]
def FA_3 : List He.Fa := [.noat "Net" "form_list", .noat "Net" "enters_at", .noat "Net" "row_list", .noat "Net" "hold_list", .noat "Net" "out_at", .noat "Net" "point_list", .glo "EchoError", .glo "BadForm", .meth "Form" "least", .meth "Form" "greatest", .meth "Form" "has", .meth "Form" "__eq__", .meth "Form" "__str__", .meth "Net" "forms", .meth "Net" "rows", .meth "Net" "holds", .meth "Net" "enters", .meth "Net" "out", .meth "Net" "__eq__", .meth "Net" "__init__"]
def FA_4 : List He.Fa := [.meth "Form" "__init__", .int "LEAST_WIDTH" 2, .int "GREATEST_WIDTH" 64, .int "GREATEST_POINT" 64, .int "MOST_FORMS" 12, .int "MOST_ROWS" 60, .int "MOST_HOLDS" 6, .int "FACTOR_END" 9223372036854775808, .int "GREATEST_SHIFT" 64, .int "GREATEST_ROW_POINT" 200, .glo "ENDS", .glo "MANNERS", .glo "POINT_RULES", .glo "ROW_LENGTHS", .int "MOST_FIGURES" 400, .str "FIGURES" "0123456789", .str "FREE" "free", .glo "OTHER_LENGTHS", .glo "PARTS_AHEAD", .free "isinstance"]
def FA_5 : List He.Fa := [.free "int", .free "bool", .free "str", .free "abs", .free "len", .free "max", .free "tuple", .free "list", .free "enumerate", .free "all", .free "range", .free "min"]
def FA : List He.Fa := FA_0 ++ (FA_1 ++ (FA_2 ++ (FA_3 ++ (FA_4 ++ (FA_5)))))
def TS_0 : List He.Tab := [(fun K => He.ga K "MANNERS", ["down", "up", "in", "out", "half", "even", "far"]), (fun K => He.ga K "POINT_RULES", ["in", "old", "times", "plus", "less", "move", "keep"]), (fun K => He.ga K "ROW_LENGTHS", ["in", "old", "times", "plus", "less", "move", "keep"]), (fun K => He.ga K "OTHER_LENGTHS", ["enters", "hold", "out"]), (fun K => He.ga K "PARTS_AHEAD", ["form", "enters", "row", "hold", "out"])]
def TS : List He.Tab := TS_0
def EXL_0 (K : PySem.W.Frag) : List Bool := [decide (PySem.W.excInitIn K (He.ga K "BadForm") PySem.ErrX.bmA "ArithmeticError.__new__" = true), decide (PySem.W.excOver K (He.ga K "BadForm") PySem.ErrX.bmA = true), decide (PySem.W.findIn K (.ref (He.ga K "BadForm")) "__setattr__" = some (some (.builtin "object.__setattr__"))), decide (PySem.W.findIn K (.ref (He.ga K "BadForm")) "__getattribute__" = some (some (.builtin "BaseException.__getattribute__"))), decide (PySem.W.findIn K (.ref (He.ga K "BadForm")) "__getattr__" = some none), decide (PySem.W.keepIn K (.ref (He.ga K "BadForm")) = true), decide (PySem.W.subIn K (.ref (He.ga K "BadForm")) (.type "BaseException") = some true), decide (PySem.W.typeIn K (.ref (He.ga K "BadForm")) = some (.type "type")), decide (PySem.W.hasDictIn K (He.ga K "BadForm") = true), decide (PySem.W.findIn K (.ref (He.ga K "BadForm")) "__class__" = some (some (.builtin "object.__class__"))), decide (PySem.W.specialIn K (.builtin "object.__class__") "__get__" = some (some (.builtin "getset_descriptor.__get__"))), decide (PySem.W.takesIn K (.builtin "object.__class__") = some true), decide (PySem.W.mroIn K (He.ga K "BadForm") (.type "object") = some true), decide (PySem.W.findIn K (.ref (He.ga K "BadForm")) "__init__" = some (some (.ref (iniA K "BadForm")))), decide (PySem.W.typeIn K (.ref (iniA K "BadForm")) = some (.type "function")), decide (PySem.W.findIn K (.ref (He.ga K "BadForm")) "part" = some none), decide (PySem.W.ks_superIn K (He.ga K "BadForm") (He.ga K "BadForm") "__init__" = some (some (.builtin "ArithmeticError.__init__"))), decide (PySem.W.subIn K (.ref (He.ga K "BadForm")) (.type "ArithmeticError") = some true), decide (PySem.W.mroIn K (He.ga K "BadForm") (.ref (He.ga K "BadForm")) = some true), decide (PySem.W.nsIn K cStatics "thirdparty.any" = some none)]
def EXL_1 (K : PySem.W.Frag) : List Bool := [decide (PySem.W.nsIn K mainGlobals "super" = some none), ed_CB.ok K, He.tupB K "ENDS" [.str "wrap", .str "stop"], decide (PySem.W.nsIn K (He.ga K "MANNERS") "down" = some (some (.ref (He.ga K "downward")))), decide (PySem.W.nsIn K (He.ga K "MANNERS") "up" = some (some (.ref (He.ga K "upward")))), decide (PySem.W.nsIn K (He.ga K "MANNERS") "in" = some (some (.ref (He.ga K "inward")))), decide (PySem.W.nsIn K (He.ga K "MANNERS") "out" = some (some (.ref (He.ga K "outward")))), decide (PySem.W.nsIn K (He.ga K "MANNERS") "half" = some (some (.ref (He.ga K "nearest_greater")))), decide (PySem.W.nsIn K (He.ga K "MANNERS") "even" = some (some (.ref (He.ga K "nearest_even")))), decide (PySem.W.nsIn K (He.ga K "MANNERS") "far" = some (some (.ref (He.ga K "nearest_far")))), decide (PySem.W.nsIn K (He.ga K "POINT_RULES") "in" = some (some (.ref (He.ga K "in_point")))), decide (PySem.W.nsIn K (He.ga K "POINT_RULES") "old" = some (some (.ref (He.ga K "old_point")))), decide (PySem.W.nsIn K (He.ga K "POINT_RULES") "times" = some (some (.ref (He.ga K "times_point")))), decide (PySem.W.nsIn K (He.ga K "POINT_RULES") "plus" = some (some (.ref (He.ga K "sum_point")))), decide (PySem.W.nsIn K (He.ga K "POINT_RULES") "less" = some (some (.ref (He.ga K "sum_point")))), decide (PySem.W.nsIn K (He.ga K "POINT_RULES") "move" = some (some (.ref (He.ga K "move_point")))), decide (PySem.W.nsIn K (He.ga K "POINT_RULES") "keep" = some (some (.ref (He.ga K "keep_point")))), He.valsB K (He.ga K "ROW_LENGTHS") [("in", .int 1), ("old", .int 2), ("times", .int 4), ("plus", .int 3), ("less", .int 3), ("move", .int 3), ("keep", .int 3)], decide (PySem.W.findIn K (.ref (He.ga K "Form")) "__class__" = some (some (.builtin "object.__class__"))), decide (PySem.W.specialIn K (.builtin "object.__class__") "__get__" = some (some (.builtin "getset_descriptor.__get__")))]
def EXL_2 (K : PySem.W.Frag) : List Bool := [decide (PySem.W.takesIn K (.builtin "object.__class__") = some true), decide (PySem.W.mroIn K (He.ga K "Form") (.type "object") = some true), decide (PySem.W.kitOne K (.ref (He.ga K "Form")) (.ref (He.ga K "Form")) = some true), decide (PySem.W.findIn K (.ref (He.ga K "Net")) "__class__" = some (some (.builtin "object.__class__"))), decide (PySem.W.mroIn K (He.ga K "Net") (.type "object") = some true), decide (PySem.W.kitOne K (.ref (He.ga K "Net")) (.ref (He.ga K "Net")) = some true), decide (PySem.W.findIn K (.ref (He.ga K "Form")) "__format__" = some (some (.builtin "object.__format__"))), decide (PySem.W.exmOne K (.ref (He.ga K "BadForm")) (.ref (He.ga K "BadForm")) = some true), He.valsB K (He.ga K "OTHER_LENGTHS") [("enters", .int 1), ("hold", .int 3), ("out", .int 1)], decide (PySem.W.nsIn K (He.ga K "ROW_LENGTHS") "enters" = some none), decide (PySem.W.nsIn K (He.ga K "ROW_LENGTHS") "hold" = some none), decide (PySem.W.nsIn K (He.ga K "ROW_LENGTHS") "out" = some none), keyB K "PARTS_AHEAD" ["form", "enters", "row", "hold", "out"], keyB K "MANNERS" ["down", "up", "in", "out", "half", "even", "far"], pvB K "PARTS_AHEAD" "form" [.non, .str "form"], pvB K "PARTS_AHEAD" "enters" [.non, .str "form"], pvB K "PARTS_AHEAD" "row" [.str "enters", .str "row"], pvB K "PARTS_AHEAD" "hold" [.str "enters", .str "row", .str "hold"], pvB K "PARTS_AHEAD" "out" [.str "enters", .str "row", .str "hold"]]
def EXL (K : PySem.W.Frag) : List Bool := EXL_0 K ++ (EXL_1 K ++ (EXL_2 K))
def EXB (K : PySem.W.Frag) : Bool := (EXL K).all id
def ER_0 : List ErrD := [ed_CB]
def ER : List ErrD := ER_0
end E1

namespace HX
open PySem PySem.W PySem.Calls PyProof.Rows
abbrev RR : OpenRow := OpenLaw.row PySem.Challenge.rw_echobound_k92_nets_as_texts
abbrev qv : Program := view RR.prog [81]
def names_0 : List PySem.Str := [("_wall" : PySem.Str), ("__name__" : PySem.Str), ("EchoError" : PySem.Str), ("BadForm" : PySem.Str), ("BadNet" : PySem.Str), ("NoText" : PySem.Str), ("is_whole" : PySem.Str), ("downward" : PySem.Str), ("upward" : PySem.Str), ("inward" : PySem.Str), ("outward" : PySem.Str), ("nearest_greater" : PySem.Str), ("nearest_even" : PySem.Str), ("nearest_far" : PySem.Str), ("MANNERS" : PySem.Str), ("is_manner" : PySem.Str), ("LEAST_WIDTH" : PySem.Str), ("GREATEST_WIDTH" : PySem.Str), ("GREATEST_POINT" : PySem.Str), ("ENDS" : PySem.Str)]
def names_1 : List PySem.Str := [("is_width" : PySem.Str), ("is_point" : PySem.Str), ("is_ends" : PySem.Str), ("Form" : PySem.Str), ("MOST_FORMS" : PySem.Str), ("MOST_ROWS" : PySem.Str), ("MOST_HOLDS" : PySem.Str), ("FACTOR_END" : PySem.Str), ("GREATEST_SHIFT" : PySem.Str), ("GREATEST_ROW_POINT" : PySem.Str), ("ROW_LENGTHS" : PySem.Str), ("is_place" : PySem.Str), ("is_factor" : PySem.Str), ("in_point" : PySem.Str), ("old_point" : PySem.Str), ("times_point" : PySem.Str), ("sum_point" : PySem.Str), ("move_point" : PySem.Str), ("keep_point" : PySem.Str), ("POINT_RULES" : PySem.Str)]
def names_2 : List PySem.Str := [("is_written_as_row" : PySem.Str), ("row_point" : PySem.Str), ("check_length" : PySem.Str), ("check_forms" : PySem.Str), ("is_hold" : PySem.Str), ("check_holds" : PySem.Str), ("checked_points" : PySem.Str), ("check_links" : PySem.Str), ("Net" : PySem.Str), ("FIGURES" : PySem.Str), ("MOST_FIGURES" : PySem.Str), ("FREE" : PySem.Str), ("OTHER_LENGTHS" : PySem.Str), ("PARTS_AHEAD" : PySem.Str), ("whole_of" : PySem.Str), ("wholes_of" : PySem.Str), ("show_row" : PySem.Str), ("show_net" : PySem.Str), ("check_text" : PySem.Str), ("form_of" : PySem.Str)]
def names_3 : List PySem.Str := [("part_of_line" : PySem.Str), ("parts_of_text" : PySem.Str), ("read_net" : PySem.Str), ("_law_cell_at" : PySem.Str), ("_law_well" : PySem.Str), ("_law_draw" : PySem.Str), ("_law_form" : PySem.Str), ("_law_word" : PySem.Str), ("_law_row" : PySem.Str), ("_law_begin" : PySem.Str), ("_law_mixed" : PySem.Str), ("_law_link" : PySem.Str), ("_law_net" : PySem.Str), ("_law_made" : PySem.Str), ("_law_lines" : PySem.Str)]
def names : List PySem.Str := names_0 ++ (names_1 ++ (names_2 ++ (names_3)))
def AS_0 : List Addr := [3, 6, 4, 21, 31, 53, 75, 97, 106, 113, 120, 127, 134, 141, 148, 155, 156, 163, 164, 171, 178, 185, 322, 327, 334, 341, 348, 355, 362, 369]
def AS_1 : List Addr := [376, 383, 384, 391, 398, 405, 412, 419, 426, 433, 440, 539, 544, 545, 555, 560, 565, 570, 577, 584, 591, 596, 603, 610, 617, 624, 631, 638, 645, 650]
def AS_2 : List Addr := [657, 662, 667, 672, 677, 684, 0, 20, 30, 52, 74, 96, 105, 112, 119, 126, 133, 140, 147, 154, 162, 170, 177, 184, 321, 333, 340, 347, 354, 361]
def AS_3 : List Addr := [368, 375, 382, 390, 397, 404, 411, 418, 425, 432, 439, 538, 554, 559, 564, 569, 576, 583, 590, 595, 602, 609, 616, 623, 630, 637, 644, 649, 656, 661]
def AS_4 : List Addr := [666, 671, 676, 683, 19, 50, 72, 94, 104, 111, 118, 125, 132, 139, 146, 153, 161, 169, 176, 183, 200, 207, 214, 221, 228, 235, 242, 249, 256, 263]
def AS_5 : List Addr := [270, 277, 284, 291, 298, 305, 312, 319, 332, 339, 346, 353, 360, 367, 374, 381, 389, 396, 403, 410, 417, 424, 431, 438, 452, 459, 466, 473, 480, 487]
def AS_6 : List Addr := [494, 501, 508, 515, 522, 529, 536, 553, 558, 563, 568, 575, 582, 589, 594, 601, 608, 615, 622, 629, 636, 643, 648, 655, 660, 665, 670, 675, 682, 49]
def AS_7 : List Addr := [71, 64, 93, 86, 199, 193, 206, 213, 220, 227, 234, 241, 248, 255, 262, 269, 276, 283, 290, 297, 304, 311, 318, 451, 458, 465, 472, 479, 486, 493]
def AS_8 : List Addr := [500, 507, 514, 521, 528, 535, 48, 70, 92, 198, 205, 212, 219, 226, 233, 240, 247, 254, 261, 268, 275, 282, 289, 296, 303, 310, 317, 450, 457, 464]
def AS_9 : List Addr := [471, 478, 485, 492, 499, 506, 513, 520, 527, 534, 38, 59, 81, 546, 547, 548, 549, 550, 29, 51, 73, 95, 320, 537, 2]
def AS : List Addr := AS_0 ++ (AS_1 ++ (AS_2 ++ (AS_3 ++ (AS_4 ++ (AS_5 ++ (AS_6 ++ (AS_7 ++ (AS_8 ++ (AS_9)))))))))
abbrev hk : PySem.W.Hook := E1.hookY AS E1.FA E1.FN E1.TS E1.EXB E1.ER
def ob (s : PySem.W.SharedT) : E1.AlY := E1.obsY AS E1.FA E1.FN E1.TS E1.EXB E1.ER (HandSHeadRun.getT s)
theorem ob_eq (s : PySem.W.SharedT) : ob s = hk.obs s.abs := E1.obsY_eq (HandSHeadRun.getT_eq s)
set_option maxRecDepth 100000 in
set_option maxHeartbeats 0 in
theorem run_f (w : World) : HandSHeadRun.RunEq RR qv hk ob 4676 names (w.withFollow "special-get-raises" false) := fun os => by kernel_rfl
set_option maxRecDepth 100000 in
set_option maxHeartbeats 0 in
theorem run_t (w : World) : HandSHeadRun.RunEq RR qv hk ob 4676 names (w.withFollow "special-get-raises" true) := fun os => by kernel_rfl
theorem run (w : World) : HandSHeadRun.RunEq RR qv hk ob 4676 names w :=
  byRow2 "special-get-raises" (P := fun w => HandSHeadRun.RunEq RR qv hk ob 4676 names w) run_f run_t w
end HX

namespace E1
open PySem PySem.Spec PyProof.Rows L2

def CalD (P : Program) (w : World) (K : PySem.W.Frag) (mg : Str → Option Value) (base : Heap) (k : Nat) (x : Str) (ps : List Str) (dvs : List V) (sp : Sp) : Prop :=
  ∃ (f : Addr) (fd : FuncData) (ds : List Value), mg x = some (.ref f) ∧ PySem.W.keepIn K (.ref f) = true ∧ Vals dvs ds ∧ Binds K fd ps ds ∧ FnOk P w K mg base CX0 k f fd ps sp
theorem pe_cald {X : Cx} {k j : Nat} {x : Str} {ps : List Str} {dvs : List V} {sp : Sp} {e : Expr} {es : List Expr} {t : TA} {p pos : Pos} (c : CalD X.prog X.w X.K X.mg X.base k x ps dvs sp) (hr : Room j X.A) (ha : PA X (e :: es) t) (hle : k ≤ j := by decide) (hg : Gl X x := by rfl)
    (hdb : (x == ("__debug__" : Str)) = false := by decide) (he : starEach (e :: es) X.env = (false, eval e X.env) :: starEach es X.env := by rfl) (hpl : (backTo pos (starEach es X.env)).any (·.1) = false := by rfl) :
    PE X (.Call (.Name x p) (e :: es) [] pos) (tCall sp dvs E0 t) := by
  obtain ⟨f, fd, ds, h1, h2, hd, h3, h4⟩ := c
  exact pe_call h4 (hr.mono hle) hg h1 h2 h3 hd pass0 ha hdb he hpl
def CalK (P : Program) (w : World) (K : PySem.W.Frag) (mg : Str → Option Value) (base : Heap) (k : Nat) (x : Str) (ps : List Str) (n : Nat) (ks : List Str) (gV : List V → List V → List V) (sp : Sp) : Prop :=
  ∃ (f : Addr) (fd : FuncData) (g : List Value → List Value → List Value), mg x = some (.ref f) ∧ PySem.W.keepIn K (.ref f) = true ∧ KBn K fd ps n ks g gV ∧ FnOk P w K mg base CX0 k f fd ps sp
theorem pe_calk {X : Cx} {k j n : Nat} {x : Str} {ps ks : List Str} {gV : List V → List V → List V} {sp : Sp} {e : Expr} {es : List Expr} {kws : List Keyword} {t tk : TA} {p pos : Pos} (c : CalK X.prog X.w X.K X.mg X.base k x ps n ks gV sp) (hr : Room j X.A)
    (ha : PA X (e :: es) t) (hkw : PK X kws tk) (hle : k ≤ j := by decide) (hg : Gl X x := by rfl) (hall : (backToKw pos (keywordEach kws X.env)).all (·.1.isSome) = true := by rfl) (hks : (backToKw pos (keywordEach kws X.env)).filterMap (·.1) = ks := by rfl)
    (hdb : (x == ("__debug__" : Str)) = false := by decide) (he : starEach (e :: es) X.env = (false, eval e X.env) :: starEach es X.env := by rfl)
    (hpl : ((backTo pos (starEach (e :: es) X.env)).any (·.1) || (backToKw pos (keywordEach kws X.env)).any (·.1.isNone)) = false := by rfl) :
    PE X (.Call (.Name x p) (e :: es) kws pos) (tCallN n ks.length sp gV E0 t tk) := by
  obtain ⟨f, fd, g, h1, h2, h3, h4⟩ := c
  exact pe_callN h4 (hr.mono hle) hg h1 h2 h3 pass0 ha hkw hall hks hdb he hpl
theorem pe_calk0 {X : Cx} {k j : Nat} {x : Str} {ps ks : List Str} {gV : List V → List V → List V} {sp : Sp} {kws : List Keyword} {tk : TA} {p pos : Pos} (c : CalK X.prog X.w X.K X.mg X.base k x ps 0 ks gV sp) (hr : Room j X.A)
    (hkw : PK X kws tk) (hle : k ≤ j := by decide) (hg : Gl X x := by rfl) (hall : (backToKw pos (keywordEach kws X.env)).all (·.1.isSome) = true := by rfl) (hks : (backToKw pos (keywordEach kws X.env)).filterMap (·.1) = ks := by rfl)
    (hdb : (x == ("__debug__" : Str)) = false := by decide)
    (hpl : ((backTo pos (starEach [] X.env)).any (·.1) || (backToKw pos (keywordEach kws X.env)).any (·.1.isNone)) = false := by rfl) :
    PE X (.Call (.Name x p) [] kws pos) (tCallN 0 ks.length sp gV E0 tNil tk) := by
  obtain ⟨f, fd, g, h1, h2, h3, h4⟩ := c
  refine ⟨fun pins s σ H Q I h => ?_⟩
  refine wpAny_Call_Name_kw (ld_glob I hg h1 ?_ hdb)
  refine PySem.W.callWith_KW0 (h₀ := X.base) I.ok.mod.kin h2 hall (thn (hkw.run pos pins s σ H _ I h) fun ws s2 ⟨zs, H2, I2, rz, l1, l2, q2⟩ => ⟨I2.kIn, ?_⟩) hpl
  rw [hks]
  exact run_fnN (vs := []) (us := []) h4 (hr.mono hle) h3 pass0 I2 .nil rz l1 l2 q2
/-- a class handed to isinstance -/
theorem isiB {K : PySem.W.Frag} {H : Hp} {x : V} {a b : String} {r : Bool} {Q : VK} (ty : TyX K H x (.type a)) (k : kitB a b = some r) (q : Q (.bl r) H) : rIsi K [x, .ty b] H Q :=
  ⟨x, .ty b, .type a, .type b, r, rfl, .ty _, ty, kit_ty k, q⟩
/-- whether a thing is a whole number -/
def WholeIs (K : PySem.W.Frag) (H : Hp) (x : V) (b : Bool) : Prop := (∃ i, x = .int i ∧ b = true) ∨ (∃ c, x = .bl c ∧ b = false) ∨ (b = false ∧ ∃ t : String, TyX K H x (.type t) ∧ kitB t "int" = some false)
theorem WholeIs.int {K : PySem.W.Frag} {H : Hp} (i : Int) : WholeIs K H (.int i) true := .inl ⟨i, rfl, rfl⟩
def spWhole (K : PySem.W.Frag) : Sp := fun vs H Q _ => ∃ (x : V) (b : Bool), vs = [x] ∧ WholeIs K H x b ∧ Q (.bl b) H
/-! ### the mathematics of fractions in lowest terms -/
def gI (t b : Int) : Int := (Int.gcd t b : Nat)
def lowT (t b : Int) : Int := (if b < 0 then -t else t) / gI t b
def lowB (t b : Int) : Int := (if b < 0 then -b else b) / gI t b
theorem gI_neg (t b : Int) : gI (-t) (-b) = gI t b := by
  unfold gI
  rw [Int.neg_gcd, Int.gcd_neg]
theorem gI_pos {t b : Int} (h : b ≠ 0) : 0 < gI t b := by
  have : 0 < Int.gcd t b := Int.gcd_pos_of_ne_zero_right t h
  unfold gI
  omega
theorem gI_le {t b : Int} (h : b ≠ 0) : (gI t b).natAbs ≤ b.natAbs := by
  have d : Int.gcd t b ∣ b.natAbs := Nat.gcd_dvd_right t.natAbs b.natAbs
  have := Nat.le_of_dvd (by omega) d
  unfold gI
  omega
def spShared : Sp := fun vs H Q _ => ∃ t b : Int, vs = [.int t, .int b] ∧ 0 ≤ b ∧ Q (.int (gI t b)) H
def spLow : Sp := fun vs H Q _ => ∃ t b : Int, vs = [.int t, .int b] ∧ b ≠ 0 ∧ b.natAbs < 2 ^ 4000 ∧ ∀ p, H p = none → Q (.ref p) (upd H p (.tup [.int (lowT t b), .int (lowB t b)]))
/-- two fractions at two places; the tops and bottoms told by f and d -/
def spTwo (K : PySem.W.Frag) (pre : Int → Int → Int → Int → Prop) (f d : Int → Int → Int → Int → Int) : Sp := fun vs H Q _ => ∃ (a c : Addr) (t u v x : Int), vs = [.ref a, .ref c] ∧ SqT K H a [.int t, .int u] ∧ SqT K H c [.int v, .int x] ∧
  pre t u v x ∧ 0 < u ∧ 0 < x ∧ t.natAbs < 2 ^ 1900 ∧ u.natAbs < 2 ^ 1900 ∧ v.natAbs < 2 ^ 1900 ∧ x.natAbs < 2 ^ 1900 ∧ ∀ p, H p = none → Q (.ref p) (upd H p (.tup [.int (lowT (f t u v x) (d t u v x)), .int (lowB (f t u v x) (d t u v x))]))
def spUnder (K : PySem.W.Frag) : Sp := fun vs H Q _ => ∃ (a c : Addr) (t u v x : Int), vs = [.ref a, .ref c] ∧ SqT K H a [.int t, .int u] ∧ SqT K H c [.int v, .int x] ∧
  t.natAbs < 2 ^ 1900 ∧ u.natAbs < 2 ^ 1900 ∧ v.natAbs < 2 ^ 1900 ∧ x.natAbs < 2 ^ 1900 ∧ Q (.bl (decide (t * x < v * u))) H
def absI (t : Int) : Int := if t < 0 then -t else t
def spSize (K : PySem.W.Frag) : Sp := fun vs H Q _ => ∃ (a : Addr) (t u : Int), vs = [.ref a] ∧ SqT K H a [.int t, .int u] ∧ ∀ p, H p = none → Q (.ref p) (upd H p (.tup [.int (absI t), .int u]))
def twoT (m : Int) : Int := if m < 0 then 1 else 2 ^ m.toNat
def twoB (m : Int) : Int := if m < 0 then 2 ^ (-m).toNat else 1
def spTwoTo : Sp := fun vs H Q _ => ∃ m : Int, vs = [.int m] ∧ -400 ≤ m ∧ m ≤ 400 ∧ ∀ p, H p = none → Q (.ref p) (upd H p (.tup [.int (twoT m), .int (twoB m)]))
def spIsFrac : Sp := fun vs H Q _ => ∃ (a : Addr) (t u : Int), vs = [.ref a] ∧ H a = some (.tup [.int t, .int u]) ∧ 1 ≤ u ∧ Q (.bl (decide (gI t u = 1))) H
theorem up {x : Nat} {a b : Nat} (h : x < 2 ^ a) (l : a ≤ b) : x < 2 ^ b := Nat.lt_of_lt_of_le h (Nat.pow_le_pow_right (by decide) l)
theorem up2 {x y : Nat} {a b : Nat} (h : x ≤ y) (h2 : y < 2 ^ a) (l : a ≤ b) : x < 2 ^ b := Nat.lt_of_le_of_lt h (up h2 l)
theorem same_but {H H1 H2 : Hp} {p : Addr} (s : Same H H1) (b : SameBut p H1 H2) (hp : H p = none) : Same H H2 := fun a o e => b a o (ne_of_none e hp) (s a o e)
theorem Same.free {H H' : Hp} {p : Addr} (s : Same H H') (h : H' p = none) : H p = none := by
  cases e : H p with
  | none => rfl
  | some o =>
    rw [s _ _ e] at h
    cases h
structure Zs (mg : Str → Option Value) : Prop where
  isinstance : mg "isinstance" = none
  int : mg "int" = none
  bool : mg "bool" = none
  str : mg "str" = none
  abs : mg "abs" = none
  len : mg "len" = none
  max : mg "max" = none
  tuple : mg "tuple" = none
  list : mg "list" = none
  enumerate : mg "enumerate" = none
  all : mg "all" = none
  range : mg "range" = none
  min : mg "min" = none
section
variable {P : Program} {w : World} {K : PySem.W.Frag} {mg : Str → Option Value} {base : Heap}
theorem sc_is_whole : FnScope ["thing"] ["thing"] (defScope s_is_whole) := ⟨rfl, rfl, rfl, by decide +kernel, rfl, by decide +kernel, by decide +kernel⟩
theorem ok_is_whole {f : Addr} {fd : FuncData} {k : Nat} (F : Fun K "is_whole" "is_whole" s_is_whole f fd) (z : Zs mg) : FnOk P w K mg base CX0 (k + 1) f fd ["thing"] (spWhole K) := by
  refine F.ok sc_is_whole (fun vs H Q E h => ?_) (fun cdv A outer s H vs Q E hr h => ?_)
  · obtain ⟨x, b, rfl, _⟩ := h
    rfl
  · obtain ⟨x, b, rfl, hw, q⟩ := h
    refine ⟨_, (pss_one (ps_ret (pe_and (pe_callB call_isi (by rfl) z.isinstance (by decide +kernel) (pa_cons (pv 0) (pa_cons (pe_bltn (v := .ty "int") (by rfl) z.int (by decide +kernel) rfl) pa_nil))) (pe_one (pe_not (pe_callB call_isi (by rfl) z.isinstance (by decide +kernel) (pa_cons (pv 0) (pa_cons (pe_bltn (v := .ty "bool") (by rfl) z.bool (by decide +kernel) rfl) pa_nil)))))))), ?_⟩
    rcases hw with ⟨i, rfl, rfl⟩ | ⟨c, rfl, rfl⟩ | ⟨rfl, t, ty, kt⟩
    · exact ⟨_, rfl, _, .ty "int", _, _, true, rfl, .ty _, .base (.int i), kit_ty (by decide +kernel), _, rfl, iteT ⟨_, rfl, _, .ty "bool", _, _, false, rfl, .ty _, .base (.int i), kit_ty (by decide +kernel), _, rfl, q⟩⟩
    · exact ⟨_, rfl, _, .ty "int", _, _, true, rfl, .ty _, .base (.bl c), kit_ty (by decide +kernel), _, rfl, iteT ⟨_, rfl, _, .ty "bool", _, _, true, rfl, .ty _, .base (.bl c), kit_ty (by decide +kernel), _, rfl, q⟩⟩
    · exact ⟨_, rfl, _, .ty "int", _, _, false, rfl, .ty _, ty, kit_ty kt, _, rfl, iteF q⟩
end
end E1

namespace E1
open PySem PySem.Spec PyProof.Rows L2
/-! ### the seven manners -/
inductive Mn where
  | down | up | inn | out | half | even | far
def Mn.str : Mn → Str
  | .down => "down"
  | .up => "up"
  | .inn => "in"
  | .out => "out"
  | .half => "half"
  | .even => "even"
  | .far => "far"
def fDown (t b : Int) : Int := t / b
def fUp (t b : Int) : Int := -(-t / b)
def fHalf (t b : Int) : Int := (2 * t + b) / (2 * b)
def fEven (t b : Int) : Int := if 2 * (fHalf t b * b - t) = b ∧ fHalf t b % 2 ≠ 0 then fHalf t b - 1 else fHalf t b
def fFar (t b : Int) : Int := if t > 0 then fHalf t b else -(fHalf (-t) b)
def fIn (t b : Int) : Int := if t > 0 then fDown t b else fUp t b
def fOut (t b : Int) : Int := if t > 0 then fUp t b else fDown t b
def Mn.f : Mn → Int → Int → Int
  | .down => fDown
  | .up => fUp
  | .inn => fIn
  | .out => fOut
  | .half => fHalf
  | .even => fEven
  | .far => fFar
def lawR (m : Mn) (t b : Int) : Int :=
  match m with
  | .down => t / b
  | .up => if t % b = 0 then t / b else t / b + 1
  | .inn => if t % b = 0 then t / b else t / b + (if t < 0 then 1 else 0)
  | .out => if t % b = 0 then t / b else t / b + (if t > 0 then 1 else 0)
  | .half => if 2 * (t % b) < b then t / b else t / b + 1
  | .even => if 2 * (t % b) < b then t / b else if b < 2 * (t % b) then t / b + 1 else t / b + t / b % 2
  | .far => if 2 * (t % b) < b then t / b else if b < 2 * (t % b) then t / b + 1 else t / b + (if t > 0 then 1 else 0)
theorem div_is {t b q : Int} (hb : 0 < b) (h1 : q * b ≤ t) (h2 : t < q * b + b) : t / b = q := by
  have a1 : q ≤ t / b := Int.le_ediv_of_mul_le hb h1
  have a2 : t / b < q + 1 := Int.ediv_lt_of_lt_mul hb (by rw [Int.add_mul, Int.one_mul]; exact h2)
  omega
theorem dm (t : Int) {b : Int} (hb : 0 < b) : t = t / b * b + t % b ∧ 0 ≤ t % b ∧ t % b < b := by
  refine ⟨?_, Int.emod_nonneg _ (by omega), Int.emod_lt_of_pos _ hb⟩
  have := Int.mul_ediv_add_emod t b
  rw [Int.mul_comm] at this
  omega
theorem fUp_is {t b : Int} (hb : 0 < b) : fUp t b = if t % b = 0 then t / b else t / b + 1 := by
  obtain ⟨e, r0, r1⟩ := dm t hb
  unfold fUp
  generalize t / b = q at *
  generalize t % b = r at *
  split
  · rename_i h
    have := div_is (t := -t) (q := -q) hb (by rw [Int.neg_mul]; omega) (by rw [Int.neg_mul]; omega)
    rw [this]
    omega
  · rename_i h
    have := div_is (t := -t) (q := -q - 1) hb (by rw [Int.sub_mul, Int.neg_mul, Int.one_mul]; omega) (by rw [Int.sub_mul, Int.neg_mul, Int.one_mul]; omega)
    rw [this]
    omega
theorem fHalf_is {t b : Int} (hb : 0 < b) : fHalf t b = if 2 * (t % b) < b then t / b else t / b + 1 := by
  obtain ⟨e, r0, r1⟩ := dm t hb
  unfold fHalf
  generalize t / b = q at *
  generalize t % b = r at *
  have e2 : q * (2 * b) = 2 * (q * b) := Int.mul_left_comm q 2 b
  split
  · rename_i h
    exact div_is (by omega) (by rw [e2]; omega) (by rw [e2]; omega)
  · rename_i h
    exact div_is (by omega) (by rw [Int.add_mul, e2, Int.one_mul]; omega) (by rw [Int.add_mul, e2, Int.one_mul]; omega)
theorem fHalf_neg {t b : Int} (hb : 0 < b) : -(fHalf (-t) b) = if b < 2 * (t % b) then t / b + 1 else t / b := by
  obtain ⟨e, r0, r1⟩ := dm t hb
  unfold fHalf
  generalize t / b = q at *
  generalize t % b = r at *
  have e2 : q * (2 * b) = 2 * (q * b) := Int.mul_left_comm q 2 b
  split
  · rename_i h
    have := div_is (t := 2 * -t + b) (b := 2 * b) (q := -q - 1) (by omega) (by rw [Int.sub_mul, Int.neg_mul, e2, Int.one_mul]; omega) (by rw [Int.sub_mul, Int.neg_mul, e2, Int.one_mul]; omega)
    rw [this]
    omega
  · rename_i h
    have := div_is (t := 2 * -t + b) (b := 2 * b) (q := -q) (by omega) (by rw [Int.neg_mul, e2]; omega) (by rw [Int.neg_mul, e2]; omega)
    rw [this]
    omega
theorem fEven_is {t b : Int} (hb : 0 < b) : fEven t b = lawR .even t b := by
  obtain ⟨e, r0, r1⟩ := dm t hb
  unfold fEven
  rw [fHalf_is hb]
  show _ = if 2 * (t % b) < b then t / b else if b < 2 * (t % b) then t / b + 1 else t / b + t / b % 2
  generalize t / b = q at *
  generalize t % b = r at *
  by_cases h : 2 * r < b
  · rw [if_pos h, if_pos h, if_neg (by intro z; omega)]
  · rw [if_neg h, if_neg h, Int.add_mul, Int.one_mul]
    by_cases h2 : b < 2 * r
    · rw [if_pos h2, if_neg (by intro z; omega)]
    · rw [if_neg h2]
      by_cases h3 : (q + 1) % 2 ≠ 0
      · rw [if_pos ⟨by omega, h3⟩]
        omega
      · rw [if_neg (fun z => h3 z.2)]
        omega
theorem f_lawR (m : Mn) {t b : Int} (hb : 0 < b) : m.f t b = lawR m t b := by
  obtain ⟨e, r0, r1⟩ := dm t hb
  cases m with
  | down => rfl
  | up => exact fUp_is hb
  | inn =>
    show fIn t b = if t % b = 0 then t / b else t / b + (if t < 0 then 1 else 0)
    unfold fIn fDown
    rw [fUp_is hb]
    by_cases h : t > 0
    · rw [if_pos h, if_neg (show ¬ t < 0 by omega)]
      split <;> omega
    · rw [if_neg h]
      by_cases h2 : t < 0
      · rw [if_pos h2]
      · have h3 : t = 0 := by omega
        rw [if_neg h2, h3]
        simp
  | out =>
    show fOut t b = if t % b = 0 then t / b else t / b + (if t > 0 then 1 else 0)
    unfold fOut fDown
    rw [fUp_is hb]
    by_cases h : t > 0
    · rw [if_pos h, if_pos h]
    · rw [if_neg h, if_neg h]
      split <;> omega
  | half => exact fHalf_is hb
  | even => exact fEven_is hb
  | far =>
    show fFar t b = if 2 * (t % b) < b then t / b else if b < 2 * (t % b) then t / b + 1 else t / b + (if t > 0 then 1 else 0)
    unfold fFar
    rw [fHalf_is hb, fHalf_neg hb]
    by_cases h : t > 0
    · rw [if_pos h, if_pos h]
      split
      · rfl
      · split <;> rfl
    · rw [if_neg h, if_neg h]
      by_cases h2 : 2 * (t % b) < b
      · rw [if_pos h2, if_neg (show ¬ b < 2 * (t % b) by omega)]
      · rw [if_neg h2]
        split <;> omega
theorem lt_g {x y g : Int} (hg : 0 < g) : x * g < y * g ↔ x < y := ⟨fun h => Int.lt_of_mul_lt_mul_right h (Int.le_of_lt hg), fun h => Int.mul_lt_mul_of_pos_right h hg⟩
theorem lawR_mul (m : Mn) {t b g : Int} (hb : 0 < b) (hg : 0 < g) : lawR m (t * g) (b * g) = lawR m t b := by
  have e1 : t * g / (b * g) = t / b := Int.mul_ediv_mul_of_pos_left _ _ hg
  have e2 : t * g % (b * g) = t % b * g := by
    rw [Int.mul_comm t g, Int.mul_comm b g, Int.mul_emod_mul_of_pos _ _ hg, Int.mul_comm]
  have c0 : t % b * g = 0 ↔ t % b = 0 := by
    constructor
    · intro h
      rcases Int.mul_eq_zero.mp h with h | h
      · exact h
      · omega
    · intro h
      rw [h, Int.zero_mul]
  have c1 : t * g < 0 ↔ t < 0 := by
    have := lt_g (x := t) (y := 0) hg
    rw [Int.zero_mul] at this
    exact this
  have c2 : t * g > 0 ↔ t > 0 := by
    have := lt_g (x := 0) (y := t) hg
    rw [Int.zero_mul] at this
    exact this
  have c3 : 2 * (t % b * g) < b * g ↔ 2 * (t % b) < b := by
    rw [← Int.mul_assoc]
    exact lt_g hg
  have c4 : b * g < 2 * (t % b * g) ↔ b < 2 * (t % b) := by
    rw [← Int.mul_assoc]
    exact lt_g hg
  cases m <;> simp only [lawR, e1, e2, c0, c1, c2, c3, c4]
theorem lawR_eq (m : Mn) {t b x y : Int} (hb : 0 < b) (hy : 0 < y) (h : x * b = t * y) : lawR m x y = lawR m t b := by
  rw [← lawR_mul m hy hb, h, Int.mul_comm y b, lawR_mul m hb hy]
/-- how far off -/
theorem lawR_off (m : Mn) {t b : Int} (hb : 0 < b) : -b ≤ lawR m t b * b - t ∧ lawR m t b * b - t ≤ b := by
  obtain ⟨e, r0, r1⟩ := dm t hb
  have key : ∀ q' : Int, (q' = t / b ∨ q' = t / b + 1) → -b ≤ q' * b - t ∧ q' * b - t ≤ b := fun q' h => by
    generalize t / b = q at *
    generalize t % b = r at *
    rcases h with rfl | rfl
    · omega
    · rw [Int.add_mul, Int.one_mul]
      omega
  refine key _ ?_
  clear key
  cases m <;> simp only [lawR] <;> (generalize t / b = q at *) <;> (repeat' split) <;> (first | omega | exact .inl trivial)
theorem lawR_near {m : Mn} {t b : Int} (hb : 0 < b) (hm : m = .half ∨ m = .even ∨ m = .far) : -b ≤ 2 * (lawR m t b * b - t) ∧ 2 * (lawR m t b * b - t) ≤ b := by
  obtain ⟨e, r0, r1⟩ := dm t hb
  have key : ∀ q' : Int, ((q' = t / b ∧ 2 * (t % b) ≤ b) ∨ (q' = t / b + 1 ∧ b ≤ 2 * (t % b))) → -b ≤ 2 * (q' * b - t) ∧ 2 * (q' * b - t) ≤ b := fun q' h => by
    generalize t / b = q at *
    generalize t % b = r at *
    rcases h with ⟨rfl, h⟩ | ⟨rfl, h⟩
    · omega
    · rw [Int.add_mul, Int.one_mul]
      omega
  refine key _ ?_
  clear key
  rcases hm with rfl | rfl | rfl <;> simp only [lawR] <;> (generalize t / b = q at *) <;> (repeat' split) <;> omega

def spRnd (g : Int → Int → Int) : Sp := fun vs H Q _ => ∃ t b : Int, vs = [.int t, .int b] ∧ 0 < b ∧ t.natAbs < 2 ^ 910000 ∧ b.natAbs < 2 ^ 4000 ∧ Q (.int (g t b)) H
structure Mans (P : Program) (w : World) (K : PySem.W.Frag) (mg : Str → Option Value) (base : Heap) (dM : Addr) (es : Array DictEntry) (n : Nat) : Prop where
  gm : mg "MANNERS" = some (.ref dM)
  D : KDict K w dM es n
  at_ : ∀ m : Mn, ∃ (f : Addr) (fd : FuncData), PySem.W.nsIn K dM m.str = some (some (.ref f)) ∧ PySem.W.keepIn K (.ref f) = true ∧ Binds K fd ["top", "bottom"] [] ∧ FnOk P w K mg base CX0 2 f fd ["top", "bottom"] (spRnd m.f)
/-- whether a thing is a manner -/
def MannerIs (K : PySem.W.Frag) (H : Hp) (dM : Addr) (x : V) (b : Bool) : Prop := (∃ m : Mn, x = .str m.str ∧ b = true) ∨ (∃ z : Str, x = .str z ∧ PySem.W.nsIn K dM z = some none ∧ b = false) ∨ (b = false ∧ ∃ t : String, TyX K H x (.type t) ∧ kitB t "str" = some false)
def spManner (K : PySem.W.Frag) (dM : Addr) : Sp := fun vs H Q _ => ∃ (x : V) (b : Bool), vs = [x] ∧ MannerIs K H dM x b ∧ Q (.bl b) H
def spRounded (K : PySem.W.Frag) : Sp := fun vs H Q _ => ∃ (a : Addr) (m : Mn) (t b : Int), vs = [.ref a, .str m.str] ∧ SqT K H a [.int t, .int b] ∧ 0 < b ∧ t.natAbs < 2 ^ 910000 ∧ b.natAbs < 2 ^ 4000 ∧ Q (.int (m.f t b)) H
theorem two_b {b : Int} (h : b.natAbs < 2 ^ 4000) : (2 * b).natAbs < 2 ^ 4001 := by
  rw [Int.natAbs_mul, Nat.pow_succ, Nat.mul_comm]
  exact Nat.mul_lt_mul_of_pos_right h (by decide)
theorem half_le {t b : Int} (ht : t.natAbs < 2 ^ 910000) (hb : b.natAbs < 2 ^ 4000) : (fHalf t b).natAbs < 2 ^ 910003 := by
  unfold fHalf
  refine Nat.lt_of_le_of_lt (Int.natAbs_ediv_le_natAbs _ _) ?_
  have h1 : (2 * t + b).natAbs ≤ 2 * t.natAbs + b.natAbs := by omega
  have e3 : ∀ m : Nat, 2 ^ (m + 3) = 2 ^ m * 8 := fun m => Nat.pow_add 2 m 3
  have e : 2 ^ 910003 = 2 ^ 910000 * 8 := by
    rw [show (910003 : Nat) = 910000 + 3 from rfl]
    exact e3 _
  have hb := up hb (show 4000 ≤ 910000 by omega)
  rw [e]
  generalize 2 ^ 910000 = N at *
  omega
section
variable {P : Program} {w : World} {K : PySem.W.Frag} {mg : Str → Option Value} {base : Heap}
theorem sc_downward : FnScope ["top", "bottom"] ["top", "bottom"] (defScope s_downward) := ⟨rfl, rfl, rfl, by decide +kernel, rfl, by decide +kernel, by decide +kernel⟩
theorem ok_downward {f : Addr} {fd : FuncData} {k : Nat} (F : Fun K "downward" "downward" s_downward f fd) : FnOk P w K mg base CX0 (k + 1) f fd ["top", "bottom"] (spRnd fDown) := by
  refine F.ok sc_downward (fun vs H Q E h => ?_) (fun cdv A outer s H vs Q E hr h => ?_)
  · obtain ⟨t, b, rfl, _⟩ := h
    rfl
  · obtain ⟨t, b, rfl, hb, ht, hl, q⟩ := h
    refine ⟨_, (pss_one (ps_ret (pe_op op_fdivW (pv 0) (pv 1)))), ?_⟩
    exact ⟨_, rfl, _, rfl, _, _, rfl, rfl, wide_div hb hl (by decide) (by decide), q⟩
theorem sc_upward : FnScope ["top", "bottom"] ["top", "bottom"] (defScope s_upward) := ⟨rfl, rfl, rfl, by decide +kernel, rfl, by decide +kernel, by decide +kernel⟩
theorem ok_upward {f : Addr} {fd : FuncData} {k : Nat} (F : Fun K "upward" "upward" s_upward f fd) : FnOk P w K mg base CX0 (k + 1) f fd ["top", "bottom"] (spRnd fUp) := by
  refine F.ok sc_upward (fun vs H Q E h => ?_) (fun cdv A outer s H vs Q E hr h => ?_)
  · obtain ⟨t, b, rfl, _⟩ := h
    rfl
  · obtain ⟨t, b, rfl, hb, ht, hl, q⟩ := h
    refine ⟨_, (pss_one (ps_ret (pe_un un_neg (pe_op op_fdivW (pe_un un_neg (pv 0)) (pv 1))))), ?_⟩
    exact ⟨_, rfl, _, rfl, _, rfl, _, _, rfl, rfl, wide_div hb hl (by decide) (by decide), _, rfl, q⟩
theorem sc_inward : FnScope ["top", "bottom"] ["top", "bottom"] (defScope s_inward) := ⟨rfl, rfl, rfl, by decide +kernel, rfl, by decide +kernel, by decide +kernel⟩
theorem ok_inward {f : Addr} {fd : FuncData} (F : Fun K "inward" "inward" s_inward f fd) (c_downward : Cal P w K mg base 1 "downward" ["top", "bottom"] (spRnd fDown)) (c_upward : Cal P w K mg base 1 "upward" ["top", "bottom"] (spRnd fUp)) : FnOk P w K mg base CX0 2 f fd ["top", "bottom"] (spRnd fIn) := by
  refine F.ok sc_inward (fun vs H Q E h => ?_) (fun cdv A outer s H vs Q E hr h => ?_)
  · obtain ⟨t, b, rfl, _⟩ := h
    rfl
  · obtain ⟨t, b, rfl, hb, ht, hl, q⟩ := h
    refine ⟨_, (pss_one (ps_ret (pe_ifExp (pt_cmpR op_gt (pv 0) pe_int (nomark _)) (pe_cal c_downward hr (pa_cons (pv 0) (pa_cons (pv 1) pa_nil))) (pe_cal c_upward hr (pa_cons (pv 0) (pa_cons (pv 1) pa_nil)))))), ?_⟩
    refine ⟨_, rfl, _, _, rfl, rfl, _, rfl, ite2 (fun c => ?_) (fun c => ?_)⟩
    · refine ⟨_, rfl, _, rfl, t, b, rfl, hb, ht, hl, ?_⟩
      have hc : t > 0 := toB c
      unfold fIn at q
      rw [if_pos hc] at q
      exact q
    · refine ⟨_, rfl, _, rfl, t, b, rfl, hb, ht, hl, ?_⟩
      have hc : ¬ t > 0 := toNB c
      unfold fIn at q
      rw [if_neg hc] at q
      exact q
theorem sc_outward : FnScope ["top", "bottom"] ["top", "bottom"] (defScope s_outward) := ⟨rfl, rfl, rfl, by decide +kernel, rfl, by decide +kernel, by decide +kernel⟩
theorem ok_outward {f : Addr} {fd : FuncData} (F : Fun K "outward" "outward" s_outward f fd) (c_downward : Cal P w K mg base 1 "downward" ["top", "bottom"] (spRnd fDown)) (c_upward : Cal P w K mg base 1 "upward" ["top", "bottom"] (spRnd fUp)) : FnOk P w K mg base CX0 2 f fd ["top", "bottom"] (spRnd fOut) := by
  refine F.ok sc_outward (fun vs H Q E h => ?_) (fun cdv A outer s H vs Q E hr h => ?_)
  · obtain ⟨t, b, rfl, _⟩ := h
    rfl
  · obtain ⟨t, b, rfl, hb, ht, hl, q⟩ := h
    refine ⟨_, (pss_one (ps_ret (pe_ifExp (pt_cmpR op_gt (pv 0) pe_int (nomark _)) (pe_cal c_upward hr (pa_cons (pv 0) (pa_cons (pv 1) pa_nil))) (pe_cal c_downward hr (pa_cons (pv 0) (pa_cons (pv 1) pa_nil)))))), ?_⟩
    refine ⟨_, rfl, _, _, rfl, rfl, _, rfl, ite2 (fun c => ?_) (fun c => ?_)⟩
    · refine ⟨_, rfl, _, rfl, t, b, rfl, hb, ht, hl, ?_⟩
      have hc : t > 0 := toB c
      unfold fOut at q
      rw [if_pos hc] at q
      exact q
    · refine ⟨_, rfl, _, rfl, t, b, rfl, hb, ht, hl, ?_⟩
      have hc : ¬ t > 0 := toNB c
      unfold fOut at q
      rw [if_neg hc] at q
      exact q
theorem sc_nearest_greater : FnScope ["top", "bottom"] ["top", "bottom"] (defScope s_nearest_greater) := ⟨rfl, rfl, rfl, by decide +kernel, rfl, by decide +kernel, by decide +kernel⟩
theorem ok_nearest_greater {f : Addr} {fd : FuncData} {k : Nat} (F : Fun K "nearest_greater" "nearest_greater" s_nearest_greater f fd) : FnOk P w K mg base CX0 (k + 1) f fd ["top", "bottom"] (spRnd fHalf) := by
  refine F.ok sc_nearest_greater (fun vs H Q E h => ?_) (fun cdv A outer s H vs Q E hr h => ?_)
  · obtain ⟨t, b, rfl, _⟩ := h
    rfl
  · obtain ⟨t, b, rfl, hb, ht, hl, q⟩ := h
    refine ⟨_, (pss_one (ps_ret (pe_op op_fdivW (pe_op op_add (pe_op op_mul pe_int (pv 0)) (pv 1)) (pe_op op_mul pe_int (pv 1))))), ?_⟩
    exact ⟨_, rfl, _, _, rfl, rfl, .inl ⟨by decide, by decide⟩, _, rfl, _, _, rfl, rfl, _, rfl, _, _, rfl, rfl, .inl ⟨by decide, by decide⟩, _, _, rfl, rfl, wide_div (by omega) (two_b hl) (by decide) (by decide), q⟩
theorem sc_nearest_even : FnScope ["top", "bottom", "near", "halfway"] ["top", "bottom"] (defScope s_nearest_even) := ⟨rfl, rfl, rfl, by decide +kernel, rfl, by decide +kernel, by decide +kernel⟩
theorem ok_nearest_even {f : Addr} {fd : FuncData} (F : Fun K "nearest_even" "nearest_even" s_nearest_even f fd) (c_nearest_greater : Cal P w K mg base 1 "nearest_greater" ["top", "bottom"] (spRnd fHalf)) : FnOk P w K mg base CX0 2 f fd ["top", "bottom"] (spRnd fEven) := by
  refine F.ok sc_nearest_even (fun vs H Q E h => ?_) (fun cdv A outer s H vs Q E hr h => ?_)
  · obtain ⟨t, b, rfl, _⟩ := h
    rfl
  · obtain ⟨t, b, rfl, hb, ht, hl, q⟩ := h
    have hn := half_le ht hl
    refine ⟨_, (pss_cons (ps_set (i := 2) sc_nearest_even.nd rfl (.inl rfl) (pe_cal c_nearest_greater hr (pa_cons (pv 0) (pa_cons (pv 1) pa_nil))))
      (pss_cons (ps_set (i := 3) sc_nearest_even.nd rfl (.inl rfl) (pe_cmpR op_eq (pe_op op_mul pe_int (pe_op op_sub (pe_op op_mulW (pv 2) (pv 1)) (pv 0))) (pv 1) (nomark _)))
      (pss_one (ps_ret (pe_ifExp (PW.pt (pw_and (pt_val (pv 3)) (pw_and1 (pt_truth (pe_op op_and (pv 2) pe_int) (by intro _; rfl))))) (pe_op op_sub (pv 2) pe_int) (pv 2)))))), ?_⟩
    refine ⟨_, rfl, _, rfl, t, b, rfl, hb, ht, hl, ?_⟩
    unfold fEven at q
    generalize fHalf t b = n at *
    refine ⟨_, rfl, _, rfl, _, _, rfl, rfl, wide_mul hn hl (by decide) (by decide) (by decide), _, rfl, _, _, rfl, rfl, _, _, rfl, rfl, .inl ⟨by decide, by decide⟩, _, rfl, rfl, ?_⟩
    have eB : (decide (V.int (2 * (n * b - t)) = V.int b)) = decide (2 * (n * b - t) = b) := by
      by_cases h : 2 * (n * b - t) = b
      · rw [h, decide_eq_true rfl, decide_eq_true rfl]
      · rw [decide_eq_false h, decide_eq_false (fun z => h (V.int.inj z))]
    rw [eB]
    by_cases hc : 2 * (n * b - t) = b
    · rw [decide_eq_true hc]
      refine ⟨_, rfl, _, rfl, iteT ⟨_, rfl, _, _, rfl, rfl, _, rfl, ?_⟩⟩
      rw [PyProof.Rows.bitAnd_m1]
      by_cases h2 : n % 2 ≠ 0
      · have e : (n % 2 != 0) = true := by
          rw [bne_iff_ne]
          exact h2
        rw [e]
        rw [if_pos ⟨hc, h2⟩] at q
        exact iteT ⟨_, rfl, _, _, rfl, rfl, q⟩
      · have e : (n % 2 != 0) = false := by
          have : n % 2 = 0 := by omega
          rw [this]
          rfl
        rw [e]
        rw [if_neg (fun z => h2 z.2)] at q
        exact iteF ⟨_, rfl, q⟩
    · rw [decide_eq_false hc]
      rw [if_neg (fun z => hc z.1)] at q
      exact ⟨_, rfl, _, rfl, iteF (iteF ⟨_, rfl, q⟩)⟩
theorem sc_nearest_far : FnScope ["top", "bottom"] ["top", "bottom"] (defScope s_nearest_far) := ⟨rfl, rfl, rfl, by decide +kernel, rfl, by decide +kernel, by decide +kernel⟩
theorem ok_nearest_far {f : Addr} {fd : FuncData} (F : Fun K "nearest_far" "nearest_far" s_nearest_far f fd) (c_nearest_greater : Cal P w K mg base 1 "nearest_greater" ["top", "bottom"] (spRnd fHalf)) : FnOk P w K mg base CX0 2 f fd ["top", "bottom"] (spRnd fFar) := by
  refine F.ok sc_nearest_far (fun vs H Q E h => ?_) (fun cdv A outer s H vs Q E hr h => ?_)
  · obtain ⟨t, b, rfl, _⟩ := h
    rfl
  · obtain ⟨t, b, rfl, hb, ht, hl, q⟩ := h
    refine ⟨_, (pss_one (ps_ret (pe_ifExp (pt_cmpR op_gt (pv 0) pe_int (nomark _)) (pe_cal c_nearest_greater hr (pa_cons (pv 0) (pa_cons (pv 1) pa_nil))) (pe_un un_neg (pe_cal c_nearest_greater hr (pa_cons (pe_un un_neg (pv 0)) (pa_cons (pv 1) pa_nil))))))), ?_⟩
    refine ⟨_, rfl, _, _, rfl, rfl, _, rfl, ite2 (fun c => ?_) (fun c => ?_)⟩
    · refine ⟨_, rfl, _, rfl, t, b, rfl, hb, ht, hl, ?_⟩
      have hc : t > 0 := toB c
      unfold fFar at q
      rw [if_pos hc] at q
      exact q
    · refine ⟨_, rfl, _, rfl, _, rfl, -t, b, rfl, hb, by rw [Int.natAbs_neg]; exact ht, hl, _, rfl, ?_⟩
      have hc : ¬ t > 0 := toNB c
      unfold fFar at q
      rw [if_neg hc] at q
      exact q
theorem sc_is_manner : FnScope ["thing"] ["thing"] (defScope s_is_manner) := ⟨rfl, rfl, rfl, by decide +kernel, rfl, by decide +kernel, by decide +kernel⟩
theorem ok_is_manner {f : Addr} {fd : FuncData} {k : Nat} {dM : Addr} {es : Array DictEntry} {n : Nat} (M : Mans P w K mg base dM es n) (F : Fun K "is_manner" "is_manner" s_is_manner f fd) (z : Zs mg) : FnOk P w K mg base CX0 (k + 1) f fd ["thing"] (spManner K dM) := by
  refine F.ok sc_is_manner (fun vs H Q E h => ?_) (fun cdv A outer s H vs Q E hr h => ?_)
  · obtain ⟨x, b, rfl, _⟩ := h
    rfl
  · obtain ⟨x, b, rfl, hm, q⟩ := h
    refine ⟨_, (pss_one (ps_ret (pe_and (pe_callB call_isi (by rfl) z.isinstance (by decide +kernel) (pa_cons (pv 0) (pa_cons (pe_bltn (v := .ty "str") (by rfl) z.str (by decide +kernel) rfl) pa_nil))) (pe_one (pe_cmpR (op_in_kd M.D) (pv 0) (pe_glob (v := .ref dM) (by rfl) M.gm rfl) (by rfl)))))), ?_⟩
    rcases hm with ⟨m, rfl, rfl⟩ | ⟨y, rfl, ny, rfl⟩ | ⟨rfl, t, ty, kt⟩
    · obtain ⟨fm, fdm, h1, _⟩ := M.at_ m
      exact ⟨_, rfl, _, .ty "str", _, _, true, rfl, .ty _, .base (.str _), kit_ty (by decide +kernel), _, rfl, iteT ⟨_, rfl, _, _, rfl, rfl, h1, q⟩⟩
    · exact ⟨_, rfl, _, .ty "str", _, _, true, rfl, .ty _, .base (.str _), kit_ty (by decide +kernel), _, rfl, iteT ⟨_, rfl, _, _, rfl, rfl, ny, q⟩⟩
    · exact ⟨_, rfl, _, .ty "str", _, _, false, rfl, .ty _, ty, kit_ty kt, _, rfl, iteF q⟩
end
end E1

namespace E1
open PySem PySem.Spec PyProof.Rows L2

/-! ### objects: methods, making -/
def CalM (P : Program) (w : World) (K : PySem.W.Frag) (mg : Str → Option Value) (base : Heap) (k : Nat) (C : Addr) (m : Str) (ps : List Str) (sp : Sp) : Prop :=
  ∃ (f : Addr) (fd : FuncData), Meth K C m f ∧ Binds K fd ps [] ∧ FnOk P w K mg base CX0 k f fd ps sp
def CalMK (P : Program) (w : World) (K : PySem.W.Frag) (mg : Str → Option Value) (base : Heap) (k : Nat) (C : Addr) (m : Str) (ps ks : List Str) (gV : List V → List V → List V) (sp : Sp) : Prop :=
  ∃ (f : Addr) (fd : FuncData) (g : List Value → List Value → List Value), Meth K C m f ∧ KBn K fd ps 1 ks g gV ∧ FnOk P w K mg base CX0 k f fd ps sp
def CalC (P : Program) (w : World) (K : PySem.W.Frag) (mg : Str → Option Value) (base : Heap) (k : Nat) (x : Str) (C : Addr) (ps : List Str) (dvs : List V) (sp : Sp) : Prop :=
  ∃ (f : Addr) (fd : FuncData) (ds : List Value), Mk K C f ∧ mg x = some (.ref C) ∧ Vals dvs ds ∧ Binds K fd ps ds ∧ FnOk P w K mg base CX0 k f fd ps sp
section
variable {X : Cx} {k j : Nat} {C : Addr} {m x : Str} {ps ks : List Str} {dvs : List V} {sp : Sp} {o e : Expr} {es : List Expr} {ta : TE} {t tk : TA} {apos p pos : Pos} {gV : List V → List V → List V} {kws : List Keyword}
theorem pe_calm {pl : Sem Bool} (he : PE X o ta) (c : Cls X.K C) (h : CalM X.prog X.w X.K X.mg X.base k C m ps sp) (hr : Room j X.A) (ha : PA X (e :: es) t) (hle : k ≤ j := by decide)
    (hst : starEach (e :: es) X.env = (false, eval e X.env) :: starEach es X.env := by rfl) (hpl : (backTo pos (starEach es X.env)).any (·.1) = false := by rfl)
    (ht : eval (.Call (.Attribute o m apos) (e :: es) [] pos) X.env = (do
      let ov ← eval o X.env
      standAt apos.atName
      let (f, first) ← holding [ov] (getMethod ov m pl)
      callWith pos f first (backTo pos (starEach (e :: es) X.env)) (backToKw pos (keywordEach [] X.env))) := by rfl) :
    PE X (.Call (.Attribute o m apos) (e :: es) [] pos) (tMeth C m sp [] E0 ta t) := by
  obtain ⟨f, fd, h1, h2, h3⟩ := h
  exact pe_meth he c h1 h3 (hr.mono hle) h2 .nil pass0 ha hst hpl ht
theorem pe_calm0 {pl : Sem Bool} (he : PE X o ta) (c : Cls X.K C) (h : CalM X.prog X.w X.K X.mg X.base k C m ps sp) (hr : Room j X.A) (hle : k ≤ j := by decide)
    (ht : eval (.Call (.Attribute o m apos) [] [] pos) X.env = (do
      let ov ← eval o X.env
      standAt apos.atName
      let (f, first) ← holding [ov] (getMethod ov m pl)
      callWith pos f first (backTo pos (starEach [] X.env)) (backToKw pos (keywordEach [] X.env))) := by rfl) :
    PE X (.Call (.Attribute o m apos) [] [] pos) (tMeth C m sp [] E0 ta tNil) := by
  obtain ⟨f, fd, h1, h2, h3⟩ := h
  exact pe_meth0 he c h1 h3 (hr.mono hle) h2 .nil pass0 ht
def tMethK (C : Addr) (m : Str) (n : Nat) (sp : Sp) (gV : List V → List V → List V) (ta : TE) (tk : TA) : TE := fun σ H Q => ta σ H fun x H1 => ∃ a dx fs, x = .ref a ∧ H1 a = some (.ins C dx fs) ∧ fs.lookup m = none ∧
  tk σ H1 fun zs H2 => zs.length = n ∧ sp (gV [x] zs) H2 Q E0
theorem pe_calmk0 {pl : Sem Bool} (he : PE X o ta) (c : Cls X.K C) (h : CalMK X.prog X.w X.K X.mg X.base k C m ps ks gV sp) (hr : Room j X.A) (hkw : PK X kws tk) (hle : k ≤ j := by decide)
    (hall : (backToKw pos (keywordEach kws X.env)).all (·.1.isSome) = true := by rfl) (hks : (backToKw pos (keywordEach kws X.env)).filterMap (·.1) = ks := by rfl)
    (hpl : ((backTo pos (starEach [] X.env)).any (·.1) || (backToKw pos (keywordEach kws X.env)).any (·.1.isNone)) = false := by rfl)
    (ht : eval (.Call (.Attribute o m apos) [] kws pos) X.env = (do
      let ov ← eval o X.env
      standAt apos.atName
      let (f, first) ← holding [ov] (getMethod ov m pl)
      callWith pos f first (backTo pos (starEach [] X.env)) (backToKw pos (keywordEach kws X.env))) := by rfl) :
    PE X (.Call (.Attribute o m apos) [] kws pos) (tMethK C m ks.length sp gV ta tk) := by
  obtain ⟨f, fd, g, hm, hb, F⟩ := h
  refine ⟨fun pins s σ H Q I h => ?_⟩
  refine PySem.W.methodCall_KW (pl := pl) (thn (he.run pins s σ H _ I h) fun u s1 ⟨x, H1, I1, rx, a, dx, fs, ex, ea, l, q⟩ => ?_) ht
  subst ex
  obtain rfl : u = Value.ref a := rx
  refine getmeth_ok I1 ea c hm l ?_
  refine PySem.W.callWith_KW0 (first := [.ref a]) (h₀ := X.base) I.ok.mod.kin hm.kp hall (thn (hkw.run pos pins s1 σ H1 _ I1 q) fun ws s2 ⟨zs, H2, I2, rz, l2, q2⟩ => ⟨I2.kIn, ?_⟩) hpl
  rw [hks]
  exact run_fnN (vs := [.ref a]) (us := [.ref a]) F (hr.mono hle) hb pass0 I2 (.cons rfl .nil) rz rfl l2 q2
theorem pe_calc (h : CalC X.prog X.w X.K X.mg X.base k x C ps dvs sp) (hr : Room j X.A) (ha : PA X (e :: es) t) (hle : k + 1 ≤ j := by decide) (hg : Gl X x := by rfl)
    (hdb : (x == ("__debug__" : Str)) = false := by decide) (he : starEach (e :: es) X.env = (false, eval e X.env) :: starEach es X.env := by rfl) (hpl : (backTo pos (starEach es X.env)).any (·.1) = false := by rfl) :
    PE X (.Call (.Name x p) (e :: es) [] pos) (tMake C sp dvs E0 t) := by
  obtain ⟨f, fd, ds, h1, h2, h3, h4, h5⟩ := h
  exact pe_make h1 h5 (hr.mono hle) hg h2 h4 h3 pass0 ha hdb he hpl
end
/-! ### forms -/
def wV : Option Int → V
  | none => .non
  | some w => .int w
def endS : Bool → Str
  | true => "stop"
  | false => "wrap"
def flds (w : Option Int) (pt : Int) (m : Mn) (st : Bool) : List (Str × V) := [("width", wV w), ("point", .int pt), ("manner", .str m.str), ("ends", .str (endS st))]
def WOk (w : Option Int) : Prop := ∀ x, w = some x → 2 ≤ x ∧ x ≤ 64
structure FormAt (C : Addr) (H : Hp) (p : Addr) (w : Option Int) (pt : Int) (m : Mn) (st : Bool) : Prop where
  ob : ∃ dx, H p = some (.ins C dx (flds w pt m st))
  wo : WOk w
  p0 : -64 ≤ pt
  p1 : pt ≤ 64
theorem FormAt.same {C : Addr} {H H' : Hp} {p : Addr} {w : Option Int} {pt : Int} {m : Mn} {st : Bool} (f : FormAt C H p w pt m st) (s : Same H H') : FormAt C H' p w pt m st := by
  obtain ⟨⟨dx, h⟩, a, b, c⟩ := f
  exact ⟨⟨dx, s _ _ h⟩, a, b, c⟩
theorem nPW : (("point" : Str) == "width") = false := by decide +kernel
theorem nMW : (("manner" : Str) == "width") = false := by decide +kernel
theorem nMP : (("manner" : Str) == "point") = false := by decide +kernel
theorem nEW : (("ends" : Str) == "width") = false := by decide +kernel
theorem nEP : (("ends" : Str) == "point") = false := by decide +kernel
theorem nEM : (("ends" : Str) == "manner") = false := by decide +kernel
section
variable {w : Option Int} {pt : Int} {m : Mn} {st : Bool}
theorem fl_w : (flds w pt m st).lookup ("width" : Str) = some (wV w) := by
  unfold flds
  rw [List.lookup_cons, beq_self_eq_true]
theorem fl_p : (flds w pt m st).lookup ("point" : Str) = some (.int pt) := by
  unfold flds
  rw [List.lookup_cons, nPW, List.lookup_cons, beq_self_eq_true]
theorem fl_m : (flds w pt m st).lookup ("manner" : Str) = some (.str m.str) := by
  unfold flds
  rw [List.lookup_cons, nMW, List.lookup_cons, nMP, List.lookup_cons, beq_self_eq_true]
theorem fl_e : (flds w pt m st).lookup ("ends" : Str) = some (.str (endS st)) := by
  unfold flds
  rw [List.lookup_cons, nEW, List.lookup_cons, nEP, List.lookup_cons, nEM, List.lookup_cons, beq_self_eq_true]
theorem fl_no {x : Str} (h : [(x == "width"), (x == "point"), (x == "manner"), (x == "ends")] = [false, false, false, false]) : (flds w pt m st).lookup x = none := by
  have h1 : (x == "width") = false := (List.cons.inj h).1
  have h2 : (x == "point") = false := (List.cons.inj (List.cons.inj h).2).1
  have h3 : (x == "manner") = false := (List.cons.inj (List.cons.inj (List.cons.inj h).2).2).1
  have h4 : (x == "ends") = false := (List.cons.inj (List.cons.inj (List.cons.inj (List.cons.inj h).2).2).2).1
  unfold flds
  rw [List.lookup_cons, h1, List.lookup_cons, h2, List.lookup_cons, h3, List.lookup_cons, h4]
  rfl
theorem ne_of_beq {a b : Str} (h : (b == a) = false) : ¬ a = b := fun e => by
  rw [e, beq_self_eq_true] at h
  cases h
theorem fl_put {a b c d : V} : putF "ends" d (putF "manner" c (putF "point" b (putF "width" a []))) = [(("width" : Str), a), ("point", b), ("manner", c), ("ends", d)] := by
  simp only [putF, if_neg (ne_of_beq nPW), if_neg (ne_of_beq nMW), if_neg (ne_of_beq nMP), if_neg (ne_of_beq nEW), if_neg (ne_of_beq nEP), if_neg (ne_of_beq nEM)]
end
/-- what the walk asks of the class and of the module's constants -/
structure FTxt (K : PySem.W.Frag) (mg : Str → Option Value) (C : Addr) : Prop where
  cl : Cls K C
  nW : NoAttr K C "width"
  nP : NoAttr K C "point"
  nM : NoAttr K C "manner"
  nE : NoAttr K C "ends"
structure FCst (K : PySem.W.Frag) (mg : Str → Option Value) (aE : Addr) : Prop where
  lw : ∃ t, mg "LEAST_WIDTH" = some (.int 2 t)
  gw : ∃ t, mg "GREATEST_WIDTH" = some (.int 64 t)
  gp : ∃ t, mg "GREATEST_POINT" = some (.int 64 t)
  e : mg "ENDS" = some (.ref aE)
  eT : ∀ H, SqT K H aE [.str "wrap", .str "stop"]
def two (n : Int) : Int := 2 ^ n.toNat
def lst (x : Int) : Int := -(two (x - 1))
def grt (x : Int) : Int := two (x - 1) - 1
def lstV : Option Int → V
  | none => .non
  | some x => .int (lst x)
def grtV : Option Int → V
  | none => .non
  | some x => .int (grt x)
def inR : Option Int → Int → Bool
  | none, _ => true
  | some x, n => decide (lst x ≤ n) && decide (n ≤ grt x)
def nearB : Mn → Bool
  | .half => true
  | .even => true
  | .far => true
  | _ => false
/-- the word as which a whole number of steps is kept -/
def wordF (w : Option Int) (st : Bool) (n : Int) : Int := match w with
  | none => n
  | some x => if inR (some x) n = true then n else if st = true then (if n < 0 then lst x else grt x) else (n - lst x) % two x + lst x
def spWidth : Sp := fun vs H Q _ => ∃ w : Option Int, vs = [wV w] ∧ WOk w ∧ Q (.bl true) H
def spPoint : Sp := fun vs H Q _ => ∃ p : Int, vs = [.int p] ∧ -64 ≤ p ∧ p ≤ 64 ∧ Q (.bl true) H
def spEnds : Sp := fun vs H Q _ => ∃ st : Bool, vs = [.str (endS st)] ∧ Q (.bl true) H
def spInit (C : Addr) : Sp := fun vs H Q _ => ∃ (p dx : Addr) (w : Option Int) (pt : Int) (m : Mn) (st : Bool), vs = [.ref p, wV w, .int pt, .str m.str, .str (endS st)] ∧ WOk w ∧ -64 ≤ pt ∧ pt ≤ 64 ∧ H p = some (.ins C dx []) ∧
  ∀ H', FormAt C H' p w pt m st → (∀ b o, b ≠ p → H b = some o → H' b = some o) → (∀ b, b ≠ p → H b = none → H' b = none) → Q .non H'
def spF (C : Addr) (r : Option Int → Int → Mn → Bool → Hp → VK → Prop) : Sp := fun vs H Q _ => ∃ (p : Addr) (w : Option Int) (pt : Int) (m : Mn) (st : Bool), vs = [.ref p] ∧ FormAt C H p w pt m st ∧ r w pt m st H Q
def spLeast (C : Addr) : Sp := spF C fun w _ _ _ H Q => Q (lstV w) H
def spGreatest (C : Addr) : Sp := spF C fun w _ _ _ H Q => Q (grtV w) H
def spStep (C : Addr) : Sp := spF C fun _ pt _ _ H Q => ∀ p, H p = none → Q (.ref p) (upd H p (.tup [.int (twoT (-pt)), .int (twoB (-pt))]))
def spSlack (C : Addr) : Sp := spF C fun _ _ m _ H Q => ∀ p, H p = none → Q (.ref p) (upd H p (.tup [.int 1, .int (if nearB m = true then 2 else 1)]))
def spHas (K : PySem.W.Frag) (C : Addr) : Sp := fun vs H Q _ => ∃ (p : Addr) (w : Option Int) (pt : Int) (m : Mn) (st : Bool) (x : V) (b : Bool), vs = [.ref p, x] ∧ FormAt C H p w pt m st ∧ ((∃ n, x = .int n ∧ b = inR w n) ∨ (WholeIs K H x false ∧ b = false)) ∧ Q (.bl b) H
def spWord (C : Addr) : Sp := fun vs H Q _ => ∃ (p : Addr) (w : Option Int) (pt : Int) (m : Mn) (st : Bool) (n : Int), vs = [.ref p, .int n] ∧ FormAt C H p w pt m st ∧ Q (.int (wordF w st n)) H
/-- how many steps a value is, rounded -/
def steps (pt : Int) (m : Mn) (t b : Int) : Int := m.f (lowT (t * twoB (-pt)) (b * twoT (-pt))) (lowB (t * twoB (-pt)) (b * twoT (-pt)))
def spKept (K : PySem.W.Frag) (C : Addr) : Sp := fun vs H Q _ => ∃ (p : Addr) (w : Option Int) (pt : Int) (m : Mn) (st : Bool) (a : Addr) (t b : Int), vs = [.ref p, .ref a] ∧ FormAt C H p w pt m st ∧ SqT K H a [.int t, .int b] ∧ 0 < b ∧ t.natAbs < 2 ^ 1500 ∧ b.natAbs < 2 ^ 1500 ∧
  ∀ (r : Addr) (H' : Hp), H r = none → Same H H' → H' r = some (.tup [.int (wordF w st (steps pt m t b)), .int (steps pt m t b - wordF w st (steps pt m t b))]) → Q (.ref r) H'
theorem two_pos (n : Int) : 0 < two n := by
  unfold two
  exact Int.pow_pos (by decide)
theorem twoT_pos (n : Int) : 0 < twoT n := by
  unfold twoT
  split
  · decide
  · exact Int.pow_pos (by decide)
theorem twoB_pos (n : Int) : 0 < twoB n := by
  unfold twoB
  split
  · exact Int.pow_pos (by decide)
  · decide
theorem two_lt {n : Int} {k : Nat} (h : n.toNat < k) : (2 ^ n.toNat : Int).natAbs < 2 ^ k := by
  rw [Int.natAbs_pow]
  exact Nat.pow_lt_pow_right (by decide) h
theorem twoT_lt {n : Int} (h1 : n ≤ 64) : (twoT n).natAbs < 2 ^ 65 := by
  unfold twoT
  split
  · decide
  · exact two_lt (by omega)
theorem twoB_lt {n : Int} (h1 : -64 ≤ n) : (twoB n).natAbs < 2 ^ 65 := by
  unfold twoB
  split
  · exact two_lt (by omega)
  · decide
theorem low_pos' {t b : Int} (hb : b ≠ 0) : 0 < lowB t b := by
  have g0 := gI_pos (t := t) hb
  have g1 := gI_le (t := t) hb
  have : 1 ≤ lowB t b := by
    unfold lowB
    refine (Int.le_ediv_iff_mul_le g0).mpr ?_
    split <;> omega
  omega
theorem lowT_le {t b : Int} : (lowT t b).natAbs ≤ t.natAbs := by
  unfold lowT
  refine Nat.le_trans (Int.natAbs_ediv_le_natAbs _ _) ?_
  split <;> omega
theorem lowB_le {t b : Int} : (lowB t b).natAbs ≤ b.natAbs := by
  unfold lowB
  refine Nat.le_trans (Int.natAbs_ediv_le_natAbs _ _) ?_
  split <;> omega
section
variable {P : Program} {w : World} {K : PySem.W.Frag} {mg : Str → Option Value} {base : Heap}
theorem sc_is_width : FnScope ["thing"] ["thing"] (defScope s_is_width) := ⟨rfl, rfl, rfl, by decide +kernel, rfl, by decide +kernel, by decide +kernel⟩
theorem ok_is_width {f : Addr} {fd : FuncData} {aE : Addr} (Z : FCst K mg aE) (F : Fun K "is_width" "is_width" s_is_width f fd) (c_is_whole : Cal P w K mg base 1 "is_whole" ["thing"] (spWhole K)) : FnOk P w K mg base CX0 2 f fd ["thing"] spWidth := by
  refine F.ok sc_is_width (fun vs H Q E h => ?_) (fun cdv A outer s H vs Q E hr h => ?_)
  · obtain ⟨w, rfl, _⟩ := h
    rfl
  · obtain ⟨w, rfl, hw, q⟩ := h
    obtain ⟨_, gLW⟩ := Z.lw
    obtain ⟨_, gGW⟩ := Z.gw
    refine ⟨_, (pss_one (ps_ret (pe_or (pe_cmpR op_isN (pv 0) pe_non (nomark _)) (pe_one (pe_and (pe_cal c_is_whole hr (pa_cons (pv 0) pa_nil)) (pe_one (pe_chain op_le op_le (pe_glob (v := .int 2) (by rfl) gLW ⟨_, rfl⟩) (pv 0) (pe_glob (v := .int 64) (by rfl) gGW ⟨_, rfl⟩)))))))), ?_⟩
    cases w with
    | none => exact ⟨_, rfl, rfl, _, rfl, iteT q⟩
    | some x =>
      obtain ⟨h1, h2⟩ := hw x rfl
      refine ⟨_, rfl, rfl, _, rfl, iteF ⟨_, rfl, _, _, rfl, .int x, _, rfl, iteT ⟨_, rfl, _, _, rfl, rfl, _, rfl, ?_⟩⟩⟩
      rw [decide_eq_true h1]
      refine iteT ⟨_, _, rfl, rfl, ?_⟩
      show Q (.bl (decide (x ≤ 64))) H
      rw [decide_eq_true h2]
      exact q
theorem sc_is_point : FnScope ["thing"] ["thing"] (defScope s_is_point) := ⟨rfl, rfl, rfl, by decide +kernel, rfl, by decide +kernel, by decide +kernel⟩
theorem ok_is_point {f : Addr} {fd : FuncData} {aE : Addr} (Z : FCst K mg aE) (F : Fun K "is_point" "is_point" s_is_point f fd) (z : Zs mg) (c_is_whole : Cal P w K mg base 1 "is_whole" ["thing"] (spWhole K)) : FnOk P w K mg base CX0 2 f fd ["thing"] spPoint := by
  refine F.ok sc_is_point (fun vs H Q E h => ?_) (fun cdv A outer s H vs Q E hr h => ?_)
  · obtain ⟨x, rfl, _⟩ := h
    rfl
  · obtain ⟨x, rfl, h1, h2, q⟩ := h
    obtain ⟨_, gGP⟩ := Z.gp
    refine ⟨_, (pss_one (ps_ret (pe_and (pe_cal c_is_whole hr (pa_cons (pv 0) pa_nil)) (pe_one (pe_cmpR op_le (pe_callB call_abs (by rfl) z.abs (by decide +kernel) (pa_cons (pv 0) pa_nil)) (pe_glob (v := .int 64) (by rfl) gGP ⟨_, rfl⟩) (nomark _)))))), ?_⟩
    refine ⟨_, rfl, _, _, rfl, .int x, _, rfl, iteT ⟨_, rfl, _, rfl, _, _, rfl, rfl, ?_⟩⟩
    show Q (.bl (decide ((if x < 0 then -x else x) ≤ 64))) H
    rw [decide_eq_true (show (if x < 0 then -x else x) ≤ 64 by split <;> omega)]
    exact q
theorem sc_is_ends : FnScope ["thing"] ["thing"] (defScope s_is_ends) := ⟨rfl, rfl, rfl, by decide +kernel, rfl, by decide +kernel, by decide +kernel⟩
theorem ok_is_ends {f : Addr} {fd : FuncData} {k : Nat} {aE : Addr} (Z : FCst K mg aE) (F : Fun K "is_ends" "is_ends" s_is_ends f fd) (z : Zs mg) : FnOk P w K mg base CX0 (k + 1) f fd ["thing"] spEnds := by
  refine F.ok sc_is_ends (fun vs H Q E h => ?_) (fun cdv A outer s H vs Q E hr h => ?_)
  · obtain ⟨st, rfl, _⟩ := h
    rfl
  · obtain ⟨st, rfl, q⟩ := h
    refine ⟨_, (pss_one (ps_ret (pe_and (pe_callB call_isi (by rfl) z.isinstance (by decide +kernel) (pa_cons (pv 0) (pa_cons (pe_bltn (v := .ty "str") (by rfl) z.str (by decide +kernel) rfl) pa_nil))) (pe_one (pe_cmpR op_in_seq (pv 0) (pe_glob (v := .ref aE) (by rfl) Z.e rfl) (by rfl)))))), ?_⟩
    refine ⟨_, rfl, _, .ty "str", _, _, true, rfl, .ty _, .base (.str _), kit_ty (by decide +kernel), _, rfl, iteT ⟨_, rfl, aE, _, rfl, .inr (Z.eT _), rfl, rfl, ?_⟩⟩
    cases st with
    | true =>
      rw [show inV (V.str (endS true)) [V.str "wrap", V.str "stop"] = true by decide +kernel]
      exact q
    | false =>
      rw [show inV (V.str (endS false)) [V.str "wrap", V.str "stop"] = true by decide +kernel]
      exact q
theorem sc_Form___init__ : FnScope ["self", "width", "point", "manner", "ends"] ["self", "width", "point", "manner", "ends"] (defScope s_Form___init__) := ⟨rfl, rfl, rfl, by decide +kernel, rfl, by decide +kernel, by decide +kernel⟩
theorem ok_Form___init__ {f : Addr} {fd : FuncData} {dM : Addr} {dvs : List V} {C : Addr} (T : FTxt K mg C) (F : FunD K "__init__" "Form.__init__" (defArgs s_Form___init__) (defBody s_Form___init__) (defScope s_Form___init__) dvs [] f fd) (c_is_width : Cal P w K mg base 2 "is_width" ["thing"] spWidth) (c_is_point : Cal P w K mg base 2 "is_point" ["thing"] spPoint) (c_is_manner : Cal P w K mg base 1 "is_manner" ["thing"] (spManner K dM)) (c_is_ends : Cal P w K mg base 1 "is_ends" ["thing"] spEnds) : FnOk P w K mg base CX0 3 f fd ["self", "width", "point", "manner", "ends"] (spInit C) := by
  refine F.ok sc_Form___init__ (fun vs H Q E h => ?_) (fun cdv A outer s H vs Q E hr h => ?_)
  · obtain ⟨p, dx, w, pt, m, st, rfl, _⟩ := h
    rfl
  · obtain ⟨p, dx, w, pt, m, st, rfl, hw, h0, h1, hp, q⟩ := h
    refine ⟨_, PSs.nox (pss_cons (ps_if (pt_not (pt_val (pe_cal c_is_width hr (pa_cons (pv 1) pa_nil)))) (pss_one ps_never) pss_nil)
      (pss_cons (ps_if (pt_not (pt_val (pe_cal c_is_point hr (pa_cons (pv 2) pa_nil)))) (pss_one ps_never) pss_nil)
      (pss_cons (ps_if (pt_not (pt_val (pe_cal c_is_manner hr (pa_cons (pv 3) pa_nil)))) (pss_one ps_never) pss_nil)
      (pss_cons (ps_if (pt_not (pt_val (pe_cal c_is_ends hr (pa_cons (pv 4) pa_nil)))) (pss_one ps_never) pss_nil)
      (pss_cons (ps_fld (pv 0) (pv 1) rfl)
      (pss_cons (ps_fld (pv 0) (pv 2) rfl)
      (pss_cons (ps_fld (pv 0) (pv 3) rfl)
      (pss_one (ps_fld (pv 0) (pv 4) rfl))))))))), ?_⟩
    refine ⟨_, rfl, w, rfl, hw, _, rfl, iteF ?_⟩
    refine ⟨_, rfl, pt, rfl, h0, h1, _, rfl, iteF ?_⟩
    refine ⟨_, rfl, _, true, rfl, .inl ⟨m, rfl, rfl⟩, _, rfl, iteF ?_⟩
    refine ⟨_, rfl, st, rfl, _, rfl, iteF ?_⟩
    refine ⟨_, rfl, _, rfl, p, C, dx, [], rfl, hp, T.cl, T.nW, (by show 0 < 1000; decide), ?_⟩
    refine ⟨_, rfl, _, rfl, p, C, dx, _, rfl, upd_same, T.cl, T.nP, (by show 1 < 1000; decide), ?_⟩
    refine ⟨_, rfl, _, rfl, p, C, dx, _, rfl, upd_same, T.cl, T.nM, ?_, ?_⟩
    · simp only [putF, if_neg (ne_of_beq nPW)]
      show 2 < 1000
      decide
    refine ⟨_, rfl, _, rfl, p, C, dx, _, rfl, upd_same, T.cl, T.nE, ?_, ?_⟩
    · simp only [putF, if_neg (ne_of_beq nPW), if_neg (ne_of_beq nMW), if_neg (ne_of_beq nMP)]
      show 3 < 1000
      decide
    refine q _ ⟨⟨dx, ?_⟩, hw, h0, h1⟩ (fun b o hb e => ?_) (fun b hb e => ?_)
    · rw [upd_same]
      exact congrArg (fun l => some (HO.ins C dx l)) fl_put
    · rw [upd_ne hb, upd_ne hb, upd_ne hb, upd_ne hb]
      exact e
    · rw [upd_ne hb, upd_ne hb, upd_ne hb, upd_ne hb]
      exact e
theorem sc_Form_least : FnScope ["self"] ["self"] (defScope s_Form_least) := ⟨rfl, rfl, rfl, by decide +kernel, rfl, by decide +kernel, by decide +kernel⟩
theorem ok_Form_least {f : Addr} {fd : FuncData} {k : Nat} {C : Addr} (T : FTxt K mg C) (F : Fun K "least" "Form.least" s_Form_least f fd) : FnOk P w K mg base CX0 (k + 1) f fd ["self"] (spLeast C) := by
  refine F.ok sc_Form_least (fun vs H Q E h => ?_) (fun cdv A outer s H vs Q E hr h => ?_)
  · obtain ⟨p, w, pt, m, st, rfl, _⟩ := h
    rfl
  · obtain ⟨p, w, pt, m, st, rfl, ⟨⟨dx, ho⟩, hw, _, _⟩, q⟩ := h
    refine ⟨_, (pss_one (ps_ret (pe_ifExp (pt_cmpR op_isN (pe_fld (pv 0) rfl) pe_non (nomark _)) pe_non (pe_un un_neg (pe_op op_shl pe_int (pe_op op_sub (pe_fld (pv 0) rfl) pe_int)))))), ?_⟩
    refine ⟨_, rfl, p, C, dx, _, _, rfl, ho, T.cl, T.nW, fl_w, rfl, _, rfl, ?_⟩
    cases w with
    | none => exact iteT q
    | some x =>
      obtain ⟨h1, h2⟩ := hw x rfl
      refine iteF ⟨_, rfl, p, C, dx, _, _, rfl, ho, T.cl, T.nW, fl_w, _, _, rfl, rfl, _, _, rfl, rfl, ⟨by omega, by omega, by decide⟩, _, rfl, ?_⟩
      have e : (1 : Int) * 2 ^ (x - 1).toNat = two (x - 1) := Int.one_mul _
      rw [e]
      exact q
theorem sc_Form_greatest : FnScope ["self"] ["self"] (defScope s_Form_greatest) := ⟨rfl, rfl, rfl, by decide +kernel, rfl, by decide +kernel, by decide +kernel⟩
theorem ok_Form_greatest {f : Addr} {fd : FuncData} {k : Nat} {C : Addr} (T : FTxt K mg C) (F : Fun K "greatest" "Form.greatest" s_Form_greatest f fd) : FnOk P w K mg base CX0 (k + 1) f fd ["self"] (spGreatest C) := by
  refine F.ok sc_Form_greatest (fun vs H Q E h => ?_) (fun cdv A outer s H vs Q E hr h => ?_)
  · obtain ⟨p, w, pt, m, st, rfl, _⟩ := h
    rfl
  · obtain ⟨p, w, pt, m, st, rfl, ⟨⟨dx, ho⟩, hw, _, _⟩, q⟩ := h
    refine ⟨_, (pss_one (ps_ret (pe_ifExp (pt_cmpR op_isN (pe_fld (pv 0) rfl) pe_non (nomark _)) pe_non (pe_op op_sub (pe_op op_shl pe_int (pe_op op_sub (pe_fld (pv 0) rfl) pe_int)) pe_int)))), ?_⟩
    refine ⟨_, rfl, p, C, dx, _, _, rfl, ho, T.cl, T.nW, fl_w, rfl, _, rfl, ?_⟩
    cases w with
    | none => exact iteT q
    | some x =>
      obtain ⟨h1, h2⟩ := hw x rfl
      refine iteF ⟨_, rfl, p, C, dx, _, _, rfl, ho, T.cl, T.nW, fl_w, _, _, rfl, rfl, _, _, rfl, rfl, ⟨by omega, by omega, by decide⟩, _, _, rfl, rfl, ?_⟩
      have e : (1 : Int) * 2 ^ (x - 1).toNat = two (x - 1) := Int.one_mul _
      rw [e]
      exact q
theorem sc_Form_has : FnScope ["self", "thing"] ["self", "thing"] (defScope s_Form_has) := ⟨rfl, rfl, rfl, by decide +kernel, rfl, by decide +kernel, by decide +kernel⟩
theorem ok_Form_has {f : Addr} {fd : FuncData} {C : Addr} (T : FTxt K mg C) (F : Fun K "has" "Form.has" s_Form_has f fd) (c_is_whole : Cal P w K mg base 1 "is_whole" ["thing"] (spWhole K)) (m_least : CalM P w K mg base 1 C "least" ["self"] (spLeast C)) (m_greatest : CalM P w K mg base 1 C "greatest" ["self"] (spGreatest C)) : FnOk P w K mg base CX0 2 f fd ["self", "thing"] (spHas K C) := by
  refine F.ok sc_Form_has (fun vs H Q E h => ?_) (fun cdv A outer s H vs Q E hr h => ?_)
  · obtain ⟨p, w, pt, m, st, x, b, rfl, _⟩ := h
    rfl
  · obtain ⟨p, w, pt, m, st, x, b, rfl, hf, hx, q⟩ := h
    obtain ⟨⟨dx, ho⟩, hw, _, _⟩ := id hf
    refine ⟨_, (pss_cons (ps_if (pt_not (pt_val (pe_cal c_is_whole hr (pa_cons (pv 1) pa_nil)))) (pss_one (ps_ret pe_bl)) pss_nil)
      (pss_one (ps_ret (pe_or (pe_cmpR op_isN (pe_fld (pv 0) rfl) pe_non (nomark _)) (pe_one (pe_chain op_le op_le (pe_calm0 (pv 0) T.cl m_least hr) (pv 1) (pe_calm0 (pv 0) T.cl m_greatest hr))))))), ?_⟩
    rcases hx with ⟨n, rfl, rfl⟩ | ⟨hx, rfl⟩
    · refine ⟨_, rfl, _, true, rfl, .int n, _, rfl, iteF ?_⟩
      refine ⟨_, rfl, p, C, dx, _, _, rfl, ho, T.cl, T.nW, fl_w, rfl, _, rfl, ?_⟩
      cases w with
      | none => exact iteT q
      | some y =>
        refine iteF ⟨_, rfl, p, dx, _, rfl, ho, fl_no (by decide +kernel), p, some y, pt, m, st, rfl, hf, _, rfl, _, _, rfl, rfl, _, rfl, ?_⟩
        by_cases c : lst y ≤ n
        · rw [decide_eq_true c]
          refine iteT ⟨_, rfl, p, dx, _, rfl, ho, fl_no (by decide +kernel), p, some y, pt, m, st, rfl, hf, _, _, rfl, rfl, ?_⟩
          have q' : Q (.bl (decide (lst y ≤ n) && decide (n ≤ grt y))) H := q
          rw [decide_eq_true c, Bool.true_and] at q'
          exact q'
        · rw [decide_eq_false c]
          refine iteF ?_
          have q' : Q (.bl (decide (lst y ≤ n) && decide (n ≤ grt y))) H := q
          rw [decide_eq_false c, Bool.false_and] at q'
          exact q'
    · exact ⟨_, rfl, _, false, rfl, hx, _, rfl, iteT q⟩

end
end E1

namespace E1
open PySem PySem.Spec PyProof.Rows L2
/-! ### str, repr and == by own methods -/
section
variable {X : Cx} {k : Nat} {C f : Addr} {fd : FuncData} {ps : List Str} {sp : Sp}
theorem run_own {pins : List (Addr × Obj)} {σ : L2.St} {H : Hp} {s : Shared} {A' : Around} {Q : VK} {us : List Value} {vs : List V} (F : FnOk X.prog X.w X.K X.mg X.base CX0 k f fd ps sp) (rm : Room k A') (fr : A'.frames = X.A.frames) (hb : Binds X.K fd ps []) (I : Inv X pins σ H s) (r : Vals vs us) (h : sp vs H Q E0) :
    wpAny (model X.prog X.w) A' (call (.ref f) us) (EP X pins σ Q) X.xe s := by
  have e0 : Env0 X.prog X.w X.K X.mg X.base A' X.stack s H := { I.env0 with frames := by rw [fr]; exact I.env0.frames }
  have hl : us.length = ps.length := by rw [← r.length]; exact F.len _ _ _ _ h
  have bb := hb s us I.kIn (by rw [List.append_nil]; exact hl)
  rw [List.append_nil] at bb
  refine wpAny_call (codeAny_mono (F.run A' X.stack s H ⟨us, []⟩ us vs Q E0 rm e0 bb r h) fun r s' hq => ?_)
  match r, hq with
  | .error e, hq => exact (show False from hq).elim
  | .ok (.ret u), hq => exact I.after hq
  | .ok .next, hq => exact hq.elim
  | .ok .brk, hq => exact hq.elim
  | .ok .cont, hq => exact hq.elim
/-- what the written part says of an own method -/
structure OwnM (K : PySem.W.Frag) (C : Addr) (m : Str) (f : Addr) : Prop where
  find : PySem.W.findIn K (.ref C) m = some (some (.ref f))
  fn : PySem.W.isFn K (.ref f) = true
def rOwnS (C : Addr) (sp : Sp) : List V → Hp → VK → Prop := fun xs H Q => ∃ (a dx : Addr) (fs : List (Str × V)), xs = [.ref a] ∧ H a = some (.ins C dx fs) ∧ sp [.ref a] H (fun v H2 => ∃ y, v = .str y ∧ Q (.str y) H2) E0
theorem call_strO {j : Nat} (F : FnOk X.prog X.w X.K X.mg X.base CX0 k f fd ps sp) (hb : Binds X.K fd ps []) (M : OwnM X.K C "__str__" f) (hr : Room j X.A) (hle : k + 2 ≤ j := by decide) : CallR X (.type "str") (rOwnS C sp) := by
  intro pins s σ H xs us Q I r h
  obtain ⟨a, dx, fs, rfl, ha, q⟩ := h
  cases r with
  | cons ra rn =>
    cases rn
    cases ra
    obtain ⟨mA, J, _⟩ := ins_get I.hok ha
    obtain ⟨od, J, _⟩ := J.look
    have rm : Room k X.A.in1.in1 := (hr.mono hle).in1.in1
    refine PySem.W.kso_call rm.units0 I.kIn J M.find M.fn (wpAny_mono (run_own (vs := [.ref a]) F rm rfl hb I (.cons rfl .nil) q) (fun v s' hv => ?_) fun _ _ e => e)
    obtain ⟨x, H2, I2, rx, y, rfl, q2⟩ := hv
    obtain ⟨t, rfl⟩ := rx
    exact ⟨.str y, H2, I2, ⟨t, rfl⟩, q2⟩
theorem call_reprO {j : Nat} (F : FnOk X.prog X.w X.K X.mg X.base CX0 k f fd ps sp) (hb : Binds X.K fd ps []) (M : OwnM X.K C "__repr__" f) (hr : Room j X.A) (hle : k + 1 ≤ j := by decide) : CallR X (.builtin "repr") (rOwnS C sp) := by
  intro pins s σ H xs us Q I r h
  obtain ⟨a, dx, fs, rfl, ha, q⟩ := h
  cases r with
  | cons ra rn =>
    cases rn
    cases ra
    obtain ⟨mA, J, _⟩ := ins_get I.hok ha
    obtain ⟨od, J, _⟩ := J.look
    obtain ⟨m, hF⟩ := I.fr
    have rm : Room k X.A.in1 := (hr.mono hle).in1
    refine PySem.W.repr_K rm.units0 hF I.ok.mod.kin J M.find M.fn (wpAny_mono (run_own (vs := [.ref a]) F rm rfl hb I (.cons rfl .nil) q) (fun v s' hv => ?_) fun _ _ e => e)
    obtain ⟨x, H2, I2, rx, y, rfl, q2⟩ := hv
    obtain ⟨t, rfl⟩ := rx
    exact ⟨.str y, H2, I2, ⟨t, rfl⟩, q2⟩
/-- what stands right of ==: its type is no class under C -/
def RgtV (K : PySem.W.Frag) (C : Addr) (H : Hp) (y : V) : Prop := (∃ b dx fs, y = .ref b ∧ H b = some (.ins C dx fs)) ∨ (y = .non ∧ PySem.W.notFirst K C (.type "NoneType") = true) ∨ (∃ z, y = .str z ∧ PySem.W.notFirst K C (.type "str") = true) ∨
  (∃ b xs, y = .ref b ∧ H b = some (.lst xs) ∧ PySem.W.notFirst K C (.type "list") = true) ∨ (∃ b xs, y = .ref b ∧ H b = some (.tup xs) ∧ PySem.W.notFirst K C (.type "tuple") = true)
def rOwnE (K : PySem.W.Frag) (C : Addr) (sp : Sp) : R2 := fun x y H Q => ∃ (a dx : Addr) (fs : List (Str × V)), x = .ref a ∧ H a = some (.ins C dx fs) ∧ RgtV K C H y ∧ sp [.ref a, y] H (fun v H2 => ∃ b, v = .bl b ∧ Q (.bl b) H2) E0
theorem op_eqO (F : FnOk X.prog X.w X.K X.mg X.base CX0 k f fd ps sp) (hb : Binds X.K fd ps []) (M : OwnM X.K C "__eq__" f) {j : Nat} (hr : Room j X.A) (hle : k ≤ j := by decide) : OpR X (compareOp .Eq) (rOwnE X.K C sp) := by
  intro pins s σ H x y v u Q I rx ry h
  obtain ⟨a, dx, fs, rfl, ha, hy, q⟩ := h
  cases rx
  obtain ⟨mA, J, _⟩ := ins_get I.hok ha
  obtain ⟨od, J, _⟩ := J.look
  obtain ⟨m, hF⟩ := I.fr
  have ty : ∃ tb, PySem.W.Looks (model X.prog X.w) s.heap (typeOf u) tb ∧ PySem.W.notFirst X.K C tb = true := by
    rcases hy with ⟨b, dy, gs, rfl, hb⟩ | ⟨rfl, n⟩ | ⟨z, rfl, n⟩ | ⟨b, xs, rfl, hb, n⟩ | ⟨b, xs, rfl, hb, n⟩
    · cases ry
      obtain ⟨mB, J', _⟩ := ins_get I.hok hb
      obtain ⟨od', J', _⟩ := J'.look
      exact ⟨.ref C, J'.type, by simp [PySem.W.notFirst]⟩
    · cases ry
      exact ⟨_, .of_pure rfl, n⟩
    · obtain ⟨t, rfl⟩ := ry
      exact ⟨_, .of_pure rfl, n⟩
    · cases ry
      obtain ⟨_, its, nn, _, e⟩ := (show ObjOk X.prog X.w H s.heap b (.lst xs) from I.hok b _ hb)
      exact ⟨_, (PySem.W.Looks.ld e).andThen .now, n⟩
    · cases ry
      obtain ⟨its, r, e, z⟩ := I.tuple (.inl (.inl hb))
      obtain ⟨ob, oe, oc, _⟩ := e
      exact ⟨_, (PySem.W.Looks.ld oe).andThen .now, by rw [oc]; exact n⟩
  obtain ⟨tb, L, nf⟩ := ty
  refine PySem.W.cmp_ofEq (PySem.W.cmp_K (op := .Eq) (hr.mono hle).units0 hF I.ok.mod.kin J L nf M.find M.fn (wpAny_mono (run_own (vs := [.ref a, y]) F (hr.mono hle) rfl hb I (.cons rfl (.cons ry .nil)) q) (fun v s' hv => ?_) fun _ _ e => e))
  obtain ⟨x, H2, I2, rx, b, rfl, q2⟩ := hv
  cases rx
  exact ⟨.bl b, H2, I2, rfl, q2⟩
end
theorem call_str_non {X : Cx} : CallR X (.type "str") (fun xs H Q => xs = [.non] ∧ Q (.str "None") H) := by
  intro pins s σ H xs us Q I r h
  obtain ⟨rfl, q⟩ := h
  cases r with
  | cons ra rn =>
    cases rn
    cases ra
    exact P.str_of_none ⟨.str "None", H, I.tok _, ⟨_, rfl⟩, q⟩
/-- {x} of None, an int or a text -/
def tFmtN (te : TE) : TE := fun σ H Q => te σ H fun x H1 => (x = .non ∧ Q (.str "None") H1) ∨ ∃ i : Int, x = .int i ∧ i.natAbs.log2 < 1920 ∧ Q (.str (toString i)) H1
theorem pe_fmtN {X : Cx} {e : Expr} {te : TE} {pos : Pos} (he : PE X e te) : PE X (.FormattedValue e (-1) none pos) (tFmtN te) := by
  refine ⟨fun pins s σ H Q I h => ?_⟩
  refine wpAny_FormattedValue_plain (thn (he.run pins s σ H _ I h) fun v s1 ⟨x, H1, I1, r1, q⟩ => ?_)
  rcases q with ⟨rfl, q⟩ | ⟨i, rfl, hz, q⟩
  · cases r1
    exact wpAny_formatField_none ⟨.str "None", H1, I1.tok _, ⟨_, rfl⟩, q⟩
  · obtain ⟨t, rfl⟩ := r1
    exact wpAny_formatField_int hz ⟨.str (toString i), H1, I1.tok _, ⟨_, rfl⟩, q⟩
end E1

namespace E1
open PySem PySem.Spec PyProof.Rows L2

structure FCst2 (K : PySem.W.Frag) (mg : Str → Option Value) (aE : Addr) : Prop where
  lw : ∃ t, mg "LEAST_WIDTH" = some (.int 2 t)
  gw : ∃ t, mg "GREATEST_WIDTH" = some (.int 64 t)
  gp : ∃ t, mg "GREATEST_POINT" = some (.int 64 t)
  e : mg "ENDS" = some (.ref aE)
  eT : ∀ H, SqT K H aE [.str "wrap", .str "stop"]
theorem iteC {c d : Bool} {A B : Prop} (e : c = d) (h : if d = true then A else B) : if c = true then A else B := by
  rw [e]
  exact h
/-- whether a thing is a width, a point, ends -/
def WidthIs (K : PySem.W.Frag) (H : Hp) (x : V) (b : Bool) : Prop := (∃ w, x = wV w ∧ WOk w ∧ b = true) ∨ (∃ n, x = .int n ∧ ¬ (2 ≤ n ∧ n ≤ 64) ∧ b = false) ∨ (b = false ∧ x ≠ .non ∧ WholeIs K H x false)
def PointIs (K : PySem.W.Frag) (H : Hp) (x : V) (b : Bool) : Prop := (∃ n, x = .int n ∧ b = decide (-64 ≤ n ∧ n ≤ 64)) ∨ (b = false ∧ WholeIs K H x false)
def EndsIs (K : PySem.W.Frag) (H : Hp) (x : V) (b : Bool) : Prop := (∃ z : Str, x = .str z ∧ b = inV (.str z) [.str "wrap", .str "stop"]) ∨ (b = false ∧ ∃ t : String, TyX K H x (.type t) ∧ kitB t "str" = some false)
def sp1 (R : Hp → V → Bool → Prop) : Sp := fun vs H Q _ => ∃ (x : V) (b : Bool), vs = [x] ∧ R H x b ∧ Q (.bl b) H
/-- which part is the first one amiss -/
def firstBad (b1 b2 b3 : Bool) : Str := if b1 = false then "width" else if b2 = false then "point" else if b3 = false then "manner" else "ends"
def spInitX (K : PySem.W.Frag) (dM C CB : Addr) : Sp := fun vs H _ E => ∃ (p dx : Addr) (x1 x2 x3 x4 : V) (b1 b2 b3 b4 : Bool), vs = [.ref p, x1, x2, x3, x4] ∧ H p = some (.ins C dx []) ∧ WidthIs K H x1 b1 ∧ PointIs K H x2 b2 ∧ MannerIs K H dM x3 b3 ∧ EndsIs K H x4 b4 ∧ (b1 && b2 && b3 && b4) = false ∧
  ∀ d, H d = none → E (.ref CB) (some d) (upd H d (.xd [("part", .str (firstBad b1 b2 b3))]))

def spInitB (K : PySem.W.Frag) (dM C CB : Addr) : Sp := fun vs H Q E => ∃ (p dx : Addr) (x1 x2 x3 x4 : V) (b1 b2 b3 b4 : Bool), vs = [.ref p, x1, x2, x3, x4] ∧ H p = some (.ins C dx []) ∧ WidthIs K H x1 b1 ∧ PointIs K H x2 b2 ∧ MannerIs K H dM x3 b3 ∧ EndsIs K H x4 b4 ∧
  ((b1 && b2 && b3 && b4) = false → ∀ d, H d = none → E (.ref CB) (some d) (upd H d (.xd [("part", .str (firstBad b1 b2 b3))]))) ∧
  (∀ w pt m st, x1 = wV w → x2 = .int pt → x3 = .str m.str → x4 = .str (endS st) → ∀ H', FormAt C H' p w pt m st → (∀ b o, b ≠ p → H b = some o → H' b = some o) → Q .non H')
theorem ends_in {z : Str} (h : inV (.str z) [.str "wrap", .str "stop"] = true) : ∃ st, z = endS st := by
  unfold inV at h
  rw [List.any_cons, List.any_cons, List.any_nil, Bool.or_false] at h
  rcases (Bool.or_eq_true _ _).mp h with h | h
  · exact ⟨false, (eq_of_beq (show (Str.ofString "wrap" == z) = true from h)).symm⟩
  · exact ⟨true, (eq_of_beq (show (Str.ofString "stop" == z) = true from h)).symm⟩
section
variable {P : Program} {w : World} {K : PySem.W.Frag} {mg : Str → Option Value} {base : Heap}
theorem ok_is_widthB {f : Addr} {fd : FuncData} {aE : Addr} (Z : FCst2 K mg aE) (F : Fun K "is_width" "is_width" s_is_width f fd) (c_is_whole : Cal P w K mg base 1 "is_whole" ["thing"] (spWhole K)) : FnOk P w K mg base CX0 2 f fd ["thing"] (sp1 (WidthIs K)) := by
  refine F.ok sc_is_width (fun vs H Q E h => ?_) (fun cdv A outer s H vs Q E hr h => ?_)
  · obtain ⟨x, b, rfl, _⟩ := h
    rfl
  · obtain ⟨x, b, rfl, hx, q⟩ := h
    obtain ⟨_, gLW⟩ := Z.lw
    obtain ⟨_, gGW⟩ := Z.gw
    refine ⟨_, (pss_one (ps_ret (pe_or (pe_cmpR op_isN (pv 0) pe_non (nomark _)) (pe_one (pe_and (pe_cal c_is_whole hr (pa_cons (pv 0) pa_nil)) (pe_one (pe_chain op_le op_le (pe_glob (v := .int 2) (by rfl) gLW ⟨_, rfl⟩) (pv 0) (pe_glob (v := .int 64) (by rfl) gGW ⟨_, rfl⟩)))))))), ?_⟩
    rcases hx with ⟨w, rfl, hw, rfl⟩ | ⟨n, rfl, hn, rfl⟩ | ⟨rfl, hne, hx⟩
    · cases w with
      | none => exact ⟨_, rfl, rfl, _, rfl, iteT q⟩
      | some x =>
        obtain ⟨h1, h2⟩ := hw x rfl
        refine ⟨_, rfl, rfl, _, rfl, iteF ⟨_, rfl, _, _, rfl, .int x, _, rfl, iteT ⟨_, rfl, _, _, rfl, rfl, _, rfl, ?_⟩⟩⟩
        rw [decide_eq_true h1]
        refine iteT ⟨_, _, rfl, rfl, ?_⟩
        show Q (.bl (decide (x ≤ 64))) H
        rw [decide_eq_true h2]
        exact q
    · refine ⟨_, rfl, rfl, _, rfl, iteF ⟨_, rfl, _, _, rfl, .int n, _, rfl, iteT ⟨_, rfl, _, _, rfl, rfl, _, rfl, ?_⟩⟩⟩
      by_cases h1 : 2 ≤ n
      · rw [decide_eq_true h1]
        refine iteT ⟨_, _, rfl, rfl, ?_⟩
        show Q (.bl (decide (n ≤ 64))) H
        rw [decide_eq_false (fun h2 => hn ⟨h1, h2⟩)]
        exact q
      · rw [decide_eq_false h1]
        exact iteF q
    · refine ⟨_, rfl, rfl, _, rfl, ?_⟩
      refine iteC (c := decide (x = V.non)) (d := false) (decide_eq_false hne) (iteF ?_)
      exact ⟨_, rfl, _, _, rfl, hx, _, rfl, iteF q⟩
theorem ok_is_pointB {f : Addr} {fd : FuncData} {aE : Addr} (Z : FCst2 K mg aE) (F : Fun K "is_point" "is_point" s_is_point f fd) (z : Zs mg) (c_is_whole : Cal P w K mg base 1 "is_whole" ["thing"] (spWhole K)) : FnOk P w K mg base CX0 2 f fd ["thing"] (sp1 (PointIs K)) := by
  refine F.ok sc_is_point (fun vs H Q E h => ?_) (fun cdv A outer s H vs Q E hr h => ?_)
  · obtain ⟨x, b, rfl, _⟩ := h
    rfl
  · obtain ⟨x, b, rfl, hx, q⟩ := h
    obtain ⟨_, gGP⟩ := Z.gp
    refine ⟨_, (pss_one (ps_ret (pe_and (pe_cal c_is_whole hr (pa_cons (pv 0) pa_nil)) (pe_one (pe_cmpR op_le (pe_callB call_abs (by rfl) z.abs (by decide +kernel) (pa_cons (pv 0) pa_nil)) (pe_glob (v := .int 64) (by rfl) gGP ⟨_, rfl⟩) (nomark _)))))), ?_⟩
    rcases hx with ⟨n, rfl, rfl⟩ | ⟨rfl, hx⟩
    · refine ⟨_, rfl, _, _, rfl, .int n, _, rfl, iteT ⟨_, rfl, _, rfl, _, _, rfl, rfl, ?_⟩⟩
      show Q (.bl (decide ((if n < 0 then -n else n) ≤ 64))) H
      have e : (decide ((if n < 0 then -n else n) ≤ 64)) = decide (-64 ≤ n ∧ n ≤ 64) := by
        refine decide_eq_decide.mpr ?_
        split <;> omega
      rw [e]
      exact q
    · exact ⟨_, rfl, _, _, rfl, hx, _, rfl, iteF q⟩
theorem ok_is_endsB {f : Addr} {fd : FuncData} {k : Nat} {aE : Addr} (Z : FCst2 K mg aE) (F : Fun K "is_ends" "is_ends" s_is_ends f fd) (z : Zs mg) : FnOk P w K mg base CX0 (k + 1) f fd ["thing"] (sp1 (EndsIs K)) := by
  refine F.ok sc_is_ends (fun vs H Q E h => ?_) (fun cdv A outer s H vs Q E hr h => ?_)
  · obtain ⟨x, b, rfl, _⟩ := h
    rfl
  · obtain ⟨x, b, rfl, hx, q⟩ := h
    refine ⟨_, (pss_one (ps_ret (pe_and (pe_callB call_isi (by rfl) z.isinstance (by decide +kernel) (pa_cons (pv 0) (pa_cons (pe_bltn (v := .ty "str") (by rfl) z.str (by decide +kernel) rfl) pa_nil))) (pe_one (pe_cmpR op_in_seq (pv 0) (pe_glob (v := .ref aE) (by rfl) Z.e rfl) (by rfl)))))), ?_⟩
    rcases hx with ⟨y, rfl, rfl⟩ | ⟨rfl, t, ty, kt⟩
    · exact ⟨_, rfl, _, .ty "str", _, _, true, rfl, .ty _, .base (.str _), kit_ty (by decide +kernel), _, rfl, iteT ⟨_, rfl, aE, _, rfl, .inr (Z.eT _), rfl, rfl, q⟩⟩
    · exact ⟨_, rfl, _, .ty "str", _, _, false, rfl, .ty _, ty, kit_ty kt, _, rfl, iteF q⟩
theorem ok_Form___init__B {f : Addr} {fd : FuncData} {dM C : Addr} (T : FTxt K mg C) {dvs : List V} {CB fI : Addr} (EC : PySem.ErrX.ErrC K mg "BadForm" CB) (IO : PySem.ErrX.IniOk P w K mg CB fI "part") (F : FunD K "__init__" "Form.__init__" (defArgs s_Form___init__) (defBody s_Form___init__) (defScope s_Form___init__) dvs [] f fd) (c_is_width : Cal P w K mg base 2 "is_width" ["thing"] (sp1 (WidthIs K))) (c_is_point : Cal P w K mg base 2 "is_point" ["thing"] (sp1 (PointIs K))) (c_is_manner : Cal P w K mg base 1 "is_manner" ["thing"] (spManner K dM)) (c_is_ends : Cal P w K mg base 1 "is_ends" ["thing"] (sp1 (EndsIs K))) : FnOk P w K mg base (L2.CX P w) 3 f fd ["self", "width", "point", "manner", "ends"] (spInitB K dM C CB) := by
  refine F.ok (CX := L2.CX P w) sc_Form___init__ (fun vs H Q E h => ?_) (fun cdv A outer s H vs Q E hr h => ?_)
  · obtain ⟨p, dx, x1, x2, x3, x4, b1, b2, b3, b4, rfl, _⟩ := h
    rfl
  · obtain ⟨p, dx, x1, x2, x3, x4, b1, b2, b3, b4, rfl, hp, h1, h2, h3, h4, q, qq⟩ := h
    refine ⟨_, (pss_cons (ps_if (pt_not (pt_val (pe_cal c_is_width hr (pa_cons (pv 1) pa_nil)))) (pss_one (ps_raiseErr rfl EC IO hr (takes_of rfl rfl rfl rfl) (by exact (pa_cons pe_str pa_nil)))) pss_nil)
      (pss_cons (ps_if (pt_not (pt_val (pe_cal c_is_point hr (pa_cons (pv 2) pa_nil)))) (pss_one (ps_raiseErr rfl EC IO hr (takes_of rfl rfl rfl rfl) (by exact (pa_cons pe_str pa_nil)))) pss_nil)
      (pss_cons (ps_if (pt_not (pt_val (pe_cal c_is_manner hr (pa_cons (pv 3) pa_nil)))) (pss_one (ps_raiseErr rfl EC IO hr (takes_of rfl rfl rfl rfl) (by exact (pa_cons pe_str pa_nil)))) pss_nil)
      (pss_cons (ps_if (pt_not (pt_val (pe_cal c_is_ends hr (pa_cons (pv 4) pa_nil)))) (pss_one (ps_raiseErr rfl EC IO hr (takes_of rfl rfl rfl rfl) (by exact (pa_cons pe_str pa_nil)))) pss_nil)
      (pss_cons (ps_fld (pv 0) (pv 1) rfl)
      (pss_cons (ps_fld (pv 0) (pv 2) rfl)
      (pss_cons (ps_fld (pv 0) (pv 3) rfl)
      (pss_one (ps_fld (pv 0) (pv 4) rfl))))))))), ?_⟩
    cases b1 with
    | false => exact ⟨_, rfl, x1, _, rfl, h1, _, rfl, iteT ⟨_, rfl, .inl ⟨_, rfl, by decide⟩, q rfl⟩⟩
    | true =>
      refine ⟨_, rfl, x1, _, rfl, h1, _, rfl, iteF ?_⟩
      cases b2 with
      | false => exact ⟨_, rfl, x2, _, rfl, h2, _, rfl, iteT ⟨_, rfl, .inl ⟨_, rfl, by decide⟩, q rfl⟩⟩
      | true =>
        refine ⟨_, rfl, x2, _, rfl, h2, _, rfl, iteF ?_⟩
        cases b3 with
        | false => exact ⟨_, rfl, x3, _, rfl, h3, _, rfl, iteT ⟨_, rfl, .inl ⟨_, rfl, by decide⟩, q rfl⟩⟩
        | true =>
          refine ⟨_, rfl, x3, _, rfl, h3, _, rfl, iteF ?_⟩
          cases b4 with
          | false => exact ⟨_, rfl, x4, _, rfl, h4, _, rfl, iteT ⟨_, rfl, .inl ⟨_, rfl, by decide⟩, q rfl⟩⟩
          | true =>
            refine ⟨_, rfl, x4, _, rfl, h4, _, rfl, iteF ?_⟩
            obtain ⟨w, rfl, hw⟩ : ∃ w, x1 = wV w ∧ WOk w := by
              rcases h1 with ⟨w, e, hw, _⟩ | ⟨_, _, _, e⟩ | ⟨e, _⟩
              · exact ⟨w, e, hw⟩
              · cases e
              · cases e
            obtain ⟨pt, rfl, k0, k1⟩ : ∃ pt, x2 = .int pt ∧ -64 ≤ pt ∧ pt ≤ 64 := by
              rcases h2 with ⟨n, e, e2⟩ | ⟨e, _⟩
              · exact ⟨n, e, of_decide_eq_true e2.symm⟩
              · cases e
            obtain ⟨m, rfl⟩ : ∃ m : Mn, x3 = .str m.str := by
              rcases h3 with ⟨m, e, _⟩ | ⟨_, _, _, e⟩ | ⟨e, _⟩
              · exact ⟨m, e⟩
              · cases e
              · cases e
            obtain ⟨st, rfl⟩ : ∃ st : Bool, x4 = .str (endS st) := by
              rcases h4 with ⟨z, e, e2⟩ | ⟨e, _⟩
              · obtain ⟨st, e3⟩ := ends_in e2.symm
                exact ⟨st, by rw [e, e3]⟩
              · cases e
            clear h1 h2 h3 h4 q
            refine ⟨_, rfl, _, rfl, p, C, dx, [], rfl, hp, T.cl, T.nW, (by show 0 < 1000; decide), ?_⟩
            refine ⟨_, rfl, _, rfl, p, C, dx, _, rfl, upd_same, T.cl, T.nP, (by show 1 < 1000; decide), ?_⟩
            refine ⟨_, rfl, _, rfl, p, C, dx, _, rfl, upd_same, T.cl, T.nM, ?_, ?_⟩
            · simp only [putF, if_neg (ne_of_beq nPW)]
              show 2 < 1000
              decide
            refine ⟨_, rfl, _, rfl, p, C, dx, _, rfl, upd_same, T.cl, T.nE, ?_, ?_⟩
            · simp only [putF, if_neg (ne_of_beq nPW), if_neg (ne_of_beq nMW), if_neg (ne_of_beq nMP)]
              show 3 < 1000
              decide
            refine qq w pt m st rfl rfl rfl rfl _ ⟨⟨dx, ?_⟩, hw, k0, k1⟩ (fun b o hb e => ?_)
            · rw [upd_same]
              exact congrArg (fun l => some (HO.ins C dx l)) fl_put
            · rw [upd_ne hb, upd_ne hb, upd_ne hb, upd_ne hb]
              exact e
end
end E1

namespace E1
open PySem PySem.Spec PyProof.Rows L2

theorem qt {p : Prop} [Decidable p] {Q : VK} {H : Hp} (h : p) (q : Q (.bl true) H) : Q (.bl (decide p)) H := (congrArg (fun c => Q (.bl c) H) (decide_eq_true h)).mpr q
theorem small1000' {n : Nat} (h : n ≤ 1000) : n < sizeLine := Nat.lt_of_le_of_lt h (by decide)
/-- what else the written part says of the class -/
structure FX (K : PySem.W.Frag) (mg : Str → Option Value) (C : Addr) : Prop where
  gC : mg "Form" = some (.ref C)
  ha : PySem.W.findIn K (.ref C) "__class__" = some (some (.builtin "object.__class__"))
  hn : PySem.W.specialIn K (.builtin "object.__class__") "__get__" = some (some (.builtin "getset_descriptor.__get__"))
  ht : PySem.W.takesIn K (.builtin "object.__class__") = some true
  hm : PySem.W.mroIn K C (.type "object") = some true
  kC : PySem.W.kitOne K (.ref C) (.ref C) = some true
  kI : PySem.W.kitOne K (.ref C) (.type "str") = some false
  kS : PySem.W.kitOne K (.type "str") (.ref C) = some false
  kL : PySem.W.kitOne K (.type "list") (.ref C) = some false
  kT : PySem.W.kitOne K (.type "tuple") (.ref C) = some false
  kN : PySem.W.kitOne K (.type "NoneType") (.ref C) = some false
  nS : PySem.W.notFirst K C (.type "str") = true
  nL : PySem.W.notFirst K C (.type "list") = true
  nT : PySem.W.notFirst K C (.type "tuple") = true
  nN : PySem.W.notFirst K C (.type "NoneType") = true
theorem scal_w (a b : Option Int) : scal (wV a) (wV b) = true := by cases a <;> cases b <;> rfl
theorem wV_inj {a b : Option Int} (h : wV a = wV b) : a = b := by
  cases a <;> cases b
  · rfl
  · cases h
  · cases h
  · exact congrArg some (V.int.inj h)
theorem mstr_inj {a b : Mn} (h : a.str = b.str) : a = b := by
  revert h
  cases a <;> cases b <;> first | (intro _; rfl) | (intro h; exact absurd h (by decide +kernel))
theorem endS_inj {a b : Bool} (h : endS a = endS b) : a = b := by
  revert h
  cases a <;> cases b <;> first | (intro _; rfl) | (intro h; exact absurd h (by decide +kernel))
/-- two forms alike -/
def alikeB (w w2 : Option Int) (pt pt2 : Int) (m m2 : Mn) (st st2 : Bool) : Bool := decide (wV w = wV w2) && (decide (V.int pt = V.int pt2) && (decide (V.str m.str = V.str m2.str) && decide (V.str (endS st) = V.str (endS st2))))
def spEqF (K : PySem.W.Frag) (C : Addr) : Sp := fun vs H Q _ => ∃ (p : Addr) (w : Option Int) (pt : Int) (m : Mn) (st : Bool) (x : V), vs = [.ref p, x] ∧ FormAt C H p w pt m st ∧
  ((∃ (p2 : Addr) (w2 : Option Int) (pt2 : Int) (m2 : Mn) (st2 : Bool), x = .ref p2 ∧ FormAt C H p2 w2 pt2 m2 st2 ∧ Q (.bl (alikeB w w2 pt pt2 m m2 st st2)) H) ∨ (∃ t, TyX K H x t ∧ PySem.W.kitOne K t (.ref C) = some false ∧ Q (.bl false) H))
def wS : Option Int → Str
  | none => "None"
  | some x => Str.ofString (toString x)
/-- what str and repr tell -/
def strF (w : Option Int) (pt : Int) (m : Mn) (st : Bool) : Str := match w with
  | none => Str.empty ++ "free." ++ Str.ofString (toString pt) ++ " " ++ m.str ++ " " ++ endS st
  | some x => Str.empty ++ Str.ofString (toString x) ++ "." ++ Str.ofString (toString pt) ++ " " ++ m.str ++ " " ++ endS st
def repF (w : Option Int) (pt : Int) (m : Mn) (st : Bool) : Str := Str.empty ++ "Form(" ++ wS w ++ ", " ++ Str.ofString (toString pt) ++ ", " ++ reprText m.str ++ ", " ++ reprText (endS st) ++ ")"
def spStrF (C : Addr) : Sp := spF C fun w pt m st H Q => Q (.str (strF w pt m st)) H
def spRepF (C : Addr) : Sp := spF C fun w pt m st H Q => Q (.str (repF w pt m st)) H
section
variable {P : Program} {w : World} {K : PySem.W.Frag} {mg : Str → Option Value} {base : Heap}

theorem sc_Form___str__ : FnScope ["self"] ["self"] (defScope s_Form___str__) := ⟨rfl, rfl, rfl, by decide +kernel, rfl, by decide +kernel, by decide +kernel⟩
theorem lg {i : Int} (h0 : -64 ≤ i) (h1 : i ≤ 64) : i.natAbs.log2 < 1920 := by
  have : i.natAbs.log2 ≤ i.natAbs := Nat.log2_le_self _
  omega
theorem ts_len {i : Int} (h0 : -64 ≤ i) (h1 : i ≤ 64) : (Str.ofString (toString i)).length ≤ 3 := by
  have key : ∀ n : Fin 129, (Str.ofString (toString (((n : Nat) : Int) - 64))).length ≤ 3 := by decide +kernel
  have := key ⟨(i + 64).toNat, by omega⟩
  rwa [show ((((⟨(i + 64).toNat, by omega⟩ : Fin 129) : Nat) : Int) - 64) = i by show (((i + 64).toNat : Nat) : Int) - 64 = i; omega] at this
theorem m_len (m : Mn) : m.str.length ≤ 4 := by cases m <;> decide +kernel
theorem e_len (st : Bool) : (endS st).length ≤ 4 := by cases st <;> decide +kernel
theorem rm_len (m : Mn) : (reprText m.str).length ≤ 6 := by cases m <;> decide +kernel
theorem re_len (st : Bool) : (reprText (endS st)).length ≤ 6 := by cases st <;> decide +kernel
theorem le0 : Str.empty.length = 0 := rfl
theorem le1 : (Str.ofString "free.").length = 5 := by decide +kernel
theorem le2 : (Str.ofString " ").length = 1 := by decide +kernel
theorem le3 : (Str.ofString ".").length = 1 := by decide +kernel
theorem le4 : (Str.ofString "Form(").length = 5 := by decide +kernel
theorem le5 : (Str.ofString ", ").length = 2 := by decide +kernel
theorem le6 : (Str.ofString ")").length = 1 := by decide +kernel
theorem le7 : (Str.ofString "None").length = 4 := by decide +kernel
theorem ok_Form___str__ {f : Addr} {fd : FuncData} {k : Nat} {C : Addr} (T : FTxt K mg C) (F : Fun K "__str__" "Form.__str__" s_Form___str__ f fd) : FnOk P w K mg base CX0 (k + 1) f fd ["self"] (spStrF C) := by
  refine F.ok sc_Form___str__ (fun vs H Q E h => ?_) (fun cdv A outer s H vs Q E hr h => ?_)
  · obtain ⟨p, w, pt, m, st, rfl, _⟩ := h
    rfl
  · obtain ⟨p, w, pt, m, st, rfl, ⟨⟨dx, ho⟩, hw, h0, h1⟩, q⟩ := h
    refine ⟨_, (pss_cons (ps_if (pt_cmpR op_isN (pe_fld (pv 0) rfl) pe_non (nomark _)) (pss_one (ps_ret (pe_joined (.cons pe_str (.cons (pe_fmt (pe_fld (pv 0) rfl)) (.cons pe_str (.cons (pe_fmt (pe_fld (pv 0) rfl)) (.cons pe_str (.cons (pe_fmt (pe_fld (pv 0) rfl)) .nil))))))))) pss_nil)
      (pss_one (ps_ret (pe_joined (.cons (pe_fmtN (pe_fld (pv 0) rfl)) (.cons pe_str (.cons (pe_fmt (pe_fld (pv 0) rfl)) (.cons pe_str (.cons (pe_fmt (pe_fld (pv 0) rfl)) (.cons pe_str (.cons (pe_fmt (pe_fld (pv 0) rfl)) .nil))))))))))), ?_⟩
    have a1 := ts_len h0 h1
    have a2 := m_len m
    have a3 := e_len st
    have a4 := rm_len m
    have a5 := re_len st
    refine ⟨_, rfl, p, C, dx, _, _, rfl, ho, T.cl, T.nW, fl_w, rfl, _, rfl, ?_⟩
    cases w with
    | none => exact iteT ⟨_, rfl, (by simp only [Str.length_append, le0, le1, le2, le3, le4, le5, le6, le7]; exact Nat.le_of_lt (small1000' (by omega))), _, rfl, p, C, dx, _, _, rfl, ho, T.cl, T.nP, fl_p, .inr ⟨_, rfl, lg h0 h1, _, rfl, (by simp only [Str.length_append, le0, le1, le2, le3, le4, le5, le6, le7]; exact Nat.le_of_lt (small1000' (by omega))), _, rfl, (by simp only [Str.length_append, le0, le1, le2, le3, le4, le5, le6, le7]; exact Nat.le_of_lt (small1000' (by omega))), _, rfl, p, C, dx, _, _, rfl, ho, T.cl, T.nM, fl_m, .inl ⟨_, rfl, Nat.le_of_lt (small1000' (by omega)), _, rfl, (by simp only [Str.length_append, le0, le1, le2, le3, le4, le5, le6, le7]; exact Nat.le_of_lt (small1000' (by omega))), _, rfl, (by simp only [Str.length_append, le0, le1, le2, le3, le4, le5, le6, le7]; exact Nat.le_of_lt (small1000' (by omega))), _, rfl, p, C, dx, _, _, rfl, ho, T.cl, T.nE, fl_e, .inl ⟨_, rfl, Nat.le_of_lt (small1000' (by omega)), _, rfl, (by simp only [Str.length_append, le0, le1, le2, le3, le4, le5, le6, le7]; exact Nat.le_of_lt (small1000' (by omega))), q⟩⟩⟩⟩
    | some x =>
      obtain ⟨x0, x1⟩ := hw x rfl
      have a0 := ts_len (i := x) (by omega) x1
      exact iteF ⟨_, rfl, p, C, dx, _, _, rfl, ho, T.cl, T.nW, fl_w, .inr ⟨_, rfl, lg (by omega) x1, _, rfl, (by simp only [Str.length_append, le0, le1, le2, le3, le4, le5, le6, le7]; exact Nat.le_of_lt (small1000' (by omega))), _, rfl, (by simp only [Str.length_append, le0, le1, le2, le3, le4, le5, le6, le7]; exact Nat.le_of_lt (small1000' (by omega))), _, rfl, p, C, dx, _, _, rfl, ho, T.cl, T.nP, fl_p, .inr ⟨_, rfl, lg h0 h1, _, rfl, (by simp only [Str.length_append, le0, le1, le2, le3, le4, le5, le6, le7]; exact Nat.le_of_lt (small1000' (by omega))), _, rfl, (by simp only [Str.length_append, le0, le1, le2, le3, le4, le5, le6, le7]; exact Nat.le_of_lt (small1000' (by omega))), _, rfl, p, C, dx, _, _, rfl, ho, T.cl, T.nM, fl_m, .inl ⟨_, rfl, Nat.le_of_lt (small1000' (by omega)), _, rfl, (by simp only [Str.length_append, le0, le1, le2, le3, le4, le5, le6, le7]; exact Nat.le_of_lt (small1000' (by omega))), _, rfl, (by simp only [Str.length_append, le0, le1, le2, le3, le4, le5, le6, le7]; exact Nat.le_of_lt (small1000' (by omega))), _, rfl, p, C, dx, _, _, rfl, ho, T.cl, T.nE, fl_e, .inl ⟨_, rfl, Nat.le_of_lt (small1000' (by omega)), _, rfl, (by simp only [Str.length_append, le0, le1, le2, le3, le4, le5, le6, le7]; exact Nat.le_of_lt (small1000' (by omega))), q⟩⟩⟩⟩⟩
end
end E1

namespace E1
open PySem PySem.Spec PyProof.Rows L2
/-! ### texts of whole numbers -/
open PySem.NumText in
/-- written with figures alone, at most four hundred, no nought ahead -/
def figs (l : List Nat) : Bool := !(l == [] || decide (400 < l.length) || (l.head? == some 48 && l != [48])) && l.all fun c => decide (48 ≤ c) && decide (c ≤ 57)
def numb (l : List Nat) : Bool := figs l || (l.take 1 == [45] && figs (l.drop 1) && l != [45, 48])
def valL (l : List Nat) : Int := if l.head? = some 45 then -((NumText.digitsVal (l.drop 1) : Nat) : Int) else ((NumText.digitsVal l : Nat) : Int)
def wholeL (l : List Nat) : Option Int := if numb l = true then some (valL l) else none
/-- a whole number's text -/
def itx (n : Int) : List Nat := if n < 0 then 45 :: TL.numL n.natAbs else TL.numL n.natAbs
theorem tl_int (n : Int) : TL.tl (Str.ofString (toString n)) = itx n := by
  unfold itx
  cases n with
  | ofNat m => 
    rw [if_neg (show ¬ Int.ofNat m < 0 from Int.not_lt.mpr (Int.natCast_nonneg m))]
    exact TL.tl_num m
  | negSucc m =>
    rw [if_pos (by omega), TL.tl_ofString]
    have e : (toString (Int.negSucc m)).toList = '-' :: (toString (m + 1)).toList := by
      show ("-" ++ toString (m + 1)).toList = _
      rw [String.toList_append]
      rfl
    rw [e, List.map_cons]
    have h := TL.tl_num (m + 1)
    rw [TL.tl_ofString] at h
    exact congrArg (45 :: ·) h
theorem int_itx (n : Int) : Str.ofString (toString n) = SX.S (itx n) := TL.ext_tl (tl_int n)
theorem numL_back {l : List Nat} (h : NumText.AllDigits l) (hne : l ≠ []) (h0 : l = [48] ∨ l.head? ≠ some 48) : TL.numL (NumText.digitsVal l) = l := by
  unfold TL.numL
  rw [NumText.toDigits_digitsVal (l.length - 1) l (by cases l with | nil => exact absurd rfl hne | cons _ _ => rfl) h ?_, List.map_map]
  · have : ∀ c ∈ l, (Char.toNat ∘ Char.ofNat) c = c := fun c hc => by
      obtain ⟨a, b⟩ := h c hc
      have key : ∀ k : Fin 10, (Char.ofNat (48 + k.val)).toNat = 48 + k.val := by decide
      have := key ⟨c - 48, by omega⟩
      simp only [show 48 + (c - 48) = c by omega] at this
      exact this
    rw [List.map_congr_left this, List.map_id']
  · cases l with
    | nil => exact absurd rfl hne
    | cons c r =>
      rcases h0 with e | e
      · cases e
        exact .inl rfl
      · refine .inr ⟨c, r, rfl, ?_⟩
        have := (h c (List.mem_cons_self ..)).1
        have : c ≠ 48 := fun z => e (by rw [z]; rfl)
        omega
theorem fold_lt : ∀ (l : List Nat) (a : Nat), NumText.AllDigits l → l.foldl (fun acc c => acc * 10 + (c - 48)) a < (a + 1) * 10 ^ l.length
  | [], a, _ => by simp
  | c :: r, a, h => by
    have hc := h.head
    have ih := fold_lt r (a * 10 + (c - 48)) h.tail
    rw [List.foldl_cons, List.length_cons]
    rw [Nat.pow_succ]
    refine Nat.lt_of_lt_of_le ih ?_
    have : a * 10 + (c - 48) + 1 ≤ (a + 1) * 10 := by omega
    calc (a * 10 + (c - 48) + 1) * 10 ^ r.length ≤ (a + 1) * 10 * 10 ^ r.length := Nat.mul_le_mul_right _ this
      _ = (a + 1) * (10 ^ r.length * 10) := by rw [Nat.mul_assoc, Nat.mul_comm 10]
theorem digits_lt (l : List Nat) (h : NumText.AllDigits l) : NumText.digitsVal l < 10 ^ l.length := by
  have := fold_lt l 0 h
  rw [Nat.zero_add, Nat.one_mul] at this
  exact this
theorem numL_not {r : List Nat} (h : NumText.AllDigits r) (hne : r ≠ []) : TL.numL (NumText.digitsVal (48 :: r)) ≠ 48 :: r := fun e => by
  have d := digits_lt r h
  have l := TL.numL_len (n := NumText.digitsVal r) (k := r.length) (by cases r with | nil => exact absurd rfl hne | cons _ _ => exact Nat.succ_pos _) d
  rw [NumText.digitsVal_zero] at e
  rw [e, List.length_cons] at l
  omega

theorem all_dig {l : List Nat} : (l.all fun c => decide (48 ≤ c) && decide (c ≤ 57)) = true ↔ NumText.AllDigits l := by
  rw [List.all_eq_true]
  constructor
  · intro h c hc
    have := h c hc
    rw [Bool.and_eq_true, decide_eq_true_eq, decide_eq_true_eq] at this
    exact this
  · intro h c hc
    rw [Bool.and_eq_true]
    rw [decide_eq_true_eq, decide_eq_true_eq]
    exact h c hc
theorem figs_iff {l : List Nat} : figs l = true ↔ l ≠ [] ∧ l.length ≤ 400 ∧ (l = [48] ∨ l.head? ≠ some 48) ∧ NumText.AllDigits l := by
  unfold figs
  rw [Bool.and_eq_true, all_dig, Bool.not_eq_true', Bool.or_eq_false_iff, Bool.or_eq_false_iff, beq_eq_false_iff_ne, decide_eq_false_iff_not, Bool.and_eq_false_iff, beq_eq_false_iff_ne, bne_eq_false_iff_eq]
  constructor
  · rintro ⟨⟨⟨a, b⟩, c⟩, d⟩
    exact ⟨a, by omega, c.symm, d⟩
  · rintro ⟨a, b, c, d⟩
    exact ⟨⟨⟨a, by omega⟩, c.symm⟩, d⟩
/-- what the text is without its sign -/
def bare (l : List Nat) : List Nat := if l.head? = some 45 then l.drop 1 else l
/-- the figures, as the program asks for them -/
def figd (l : List Nat) : Prop := 1 ≤ (bare l).length ∧ (bare l).length ≤ 400 ∧ NumText.AllDigits (bare l)
theorem figd_len {l : List Nat} (h : figd l) : l.length ≤ 401 := by
  obtain ⟨_, h, _⟩ := h
  unfold bare at h
  split at h
  · rw [List.length_drop] at h
    omega
  · omega
theorem valL_int {l : List Nat} (h : figd l) : PySem.intText? (SX.S l) = some (valL l) := by
  have hl := figd_len h
  obtain ⟨h1, h2, h3⟩ := h
  have sl : (SX.S l).length ≤ 4300 := by rw [SX.S_len]; omega
  unfold valL
  unfold bare at h1 h2 h3
  by_cases c : l.head? = some 45
  · rw [if_pos c] at h1 h2 h3
    rw [if_pos c]
    match l, c with
    | x :: r, c =>
      cases c
      exact PySem.intText_neg (x := SX.S (45 :: r)) (cs := r) rfl h3 (fun z => by rw [z] at h1; exact absurd h1 (by decide)) sl
  · rw [if_neg c] at h1 h2 h3
    rw [if_neg c]
    exact PySem.intText_digits (x := SX.S l) h3 (fun z => by rw [show l = [] from z] at h1; exact absurd h1 (by decide)) sl
theorem not_figd {l : List Nat} (h : ¬ figd l) : numb l = false := by
  cases e : numb l with
  | false => rfl
  | true =>
    refine absurd ?_ h
    unfold numb at e
    rw [Bool.or_eq_true, Bool.and_eq_true, Bool.and_eq_true, beq_iff_eq] at e
    rcases e with e | ⟨⟨e1, e⟩, _⟩
    · obtain ⟨a, b, c, d⟩ := figs_iff.mp e
      have hb : bare l = l := by
        unfold bare
        rw [if_neg]
        intro z
        match l, z with
        | x :: r, z =>
          cases z
          have := d.head
          omega
      refine ⟨?_, ?_, ?_⟩
      · rw [hb]
        exact List.length_pos_iff.mpr a
      · rw [hb]
        exact b
      · rw [hb]
        exact d
    · obtain ⟨a, b, c, d⟩ := figs_iff.mp e
      have hb : bare l = l.drop 1 := by
        unfold bare
        rw [if_pos]
        match l, e1 with
        | x :: r, e1 =>
          cases e1
          rfl
      unfold figd
      rw [hb]
      exact ⟨List.length_pos_iff.mpr a, b, d⟩
theorem itx_nat (n : Nat) : itx (n : Int) = TL.numL n := by
  unfold itx
  rw [if_neg (by omega)]
  rfl
theorem figd_numb {l : List Nat} (h : figd l) : (itx (valL l) = l) ↔ numb l = true := by
  obtain ⟨h1, h2, h3⟩ := h
  unfold bare at h1 h2 h3
  unfold valL numb
  by_cases c : l.head? = some 45
  · rw [if_pos c] at h1 h2 h3
    rw [if_pos c]
    match l, c with
    | x :: r, c =>
      cases c
      show itx (-((NumText.digitsVal r : Nat) : Int)) = 45 :: r ↔ (figs (45 :: r) || ([45] == [45] && figs r && (45 :: r) != [45, 48])) = true
      have r0 : r ≠ [] := fun z => by rw [z] at h1; exact absurd h1 (by decide)
      have f0 : figs (45 :: r) = false := by
        cases e : figs (45 :: r) with
        | false => rfl
        | true =>
          have := (figs_iff.mp e).2.2.2.head
          omega
      rw [f0, Bool.false_or, show (([45] : List Nat) == [45]) = true from rfl, Bool.true_and, Bool.and_eq_true, figs_iff, bne_iff_ne]
      by_cases z : NumText.digitsVal r = 0
      · rw [z]
        constructor
        · intro e
          have e2 : [48] = 45 :: r := e
          exact absurd (List.cons.inj e2).1 (by decide)
        · rintro ⟨⟨_, _, a, d⟩, b⟩
          rcases a with a | a
          · exact absurd (by rw [a]) b
          · have := numL_back d r0 (.inr a)
            rw [z] at this
            exact absurd (by rw [← this]; rfl) a
      · have e : itx (-((NumText.digitsVal r : Nat) : Int)) = 45 :: TL.numL (NumText.digitsVal r) := by
          unfold itx
          rw [if_pos (by omega), Int.natAbs_neg]
          rfl
        rw [e]
        constructor
        · intro q
          have q2 := (List.cons.inj q).2
          refine ⟨⟨r0, h2, ?_, h3⟩, fun w => ?_⟩
          · match r, r0 with
            | y :: s, _ =>
              by_cases y0 : y = 48
              · subst y0
                by_cases s0 : s = []
                · rw [s0]
                  exact .inl rfl
                · exact absurd q2 (numL_not h3.tail s0)
              · exact .inr (fun w => y0 (Option.some.inj w))
          · have := (List.cons.inj w).2
            rw [this] at z
            exact z rfl
        · rintro ⟨⟨_, _, a, d⟩, b⟩
          rw [numL_back d r0 a]
  · rw [if_neg c] at h1 h2 h3
    rw [if_neg c, itx_nat]
    have l0 : l ≠ [] := fun z => by rw [z] at h1; exact absurd h1 (by decide)
    have f1 : (l.take 1 == [45]) = false := by
      match l, l0 with
      | x :: r, _ =>
        cases e : ((x :: r).take 1 == [45]) with
        | false => rfl
        | true =>
          refine absurd ?_ c
          have := beq_iff_eq.mp e
          cases this
          rfl
    rw [f1, Bool.false_and, Bool.false_and, Bool.or_false, figs_iff]
    constructor
    · intro q
      refine ⟨l0, h2, ?_, h3⟩
      match l, l0 with
      | y :: s, _ =>
        by_cases y0 : y = 48
        · subst y0
          by_cases s0 : s = []
          · rw [s0]
            exact .inl rfl
          · exact absurd q (numL_not h3.tail s0)
        · exact .inr (fun w => y0 (Option.some.inj w))
    · rintro ⟨_, _, a, d⟩
      exact numL_back d l0 a
theorem valL_size {l : List Nat} (h : figd l) : (valL l).natAbs < 10 ^ 400 := by
  obtain ⟨h1, h2, h3⟩ := h
  have d := digits_lt _ h3
  have e : (valL l).natAbs = NumText.digitsVal (bare l) := by
    unfold valL bare
    split
    · rw [Int.natAbs_neg]
      rfl
    · rfl
  rw [e]
  exact Nat.lt_of_lt_of_le d (Nat.pow_le_pow_right (by decide) h2)
theorem log_ten {n : Nat} (h : n < 10 ^ 400) : n.log2 < 1920 := by
  by_cases z : n = 0
  · rw [z]
    decide
  · exact (Nat.log2_lt z).mpr (Nat.lt_of_lt_of_le h (by decide +kernel))
theorem log_val {l : List Nat} (h : figd l) : (valL l).natAbs.log2 < 1920 := log_ten (valL_size h)
theorem itx_figd {n : Int} (h : n.natAbs < 10 ^ 400) : figd (itx n) ∧ valL (itx n) = n := by
  have ln := TL.numL_len (n := n.natAbs) (k := 400) (by decide) h
  have l1 : 1 ≤ (TL.numL n.natAbs).length := List.length_pos_iff.mpr (TL.numL_ne _)
  unfold itx figd bare valL
  by_cases c : n < 0
  · have hh : (45 :: TL.numL n.natAbs).head? = some 45 := rfl
    rw [if_pos c, if_pos hh, if_pos hh]
    refine ⟨⟨l1, ln, TL.numL_digits _⟩, ?_⟩
    show -((NumText.digitsVal (TL.numL n.natAbs) : Nat) : Int) = n
    rw [TL.numL_val]
    omega
  · rw [if_neg c]
    have hh : ¬ (TL.numL n.natAbs).head? = some 45 := fun z => by
      have := List.mem_of_mem_head? z
      have := TL.numL_digits _ _ this
      omega
    rw [if_neg hh, if_neg hh, TL.numL_val]
    exact ⟨⟨l1, ln, TL.numL_digits _⟩, by omega⟩
theorem itx_numb {n : Int} (h : n.natAbs < 10 ^ 400) : numb (itx n) = true := by
  obtain ⟨a, b⟩ := itx_figd h
  exact (figd_numb a).mp (by rw [b])
end E1

namespace E1
open PySem PySem.Spec PyProof.Rows L2

theorem iteN {c A B : Prop} [Decidable c] (h1 : ¬ c → A) (h2 : c → B) : if (!decide c) = true then A else B := by
  by_cases h : c
  · rw [decide_eq_true h]
    exact iteF (h2 h)
  · rw [decide_eq_false h]
    exact iteT (h1 h)

theorem figs_mem (c : Nat) : decide (c ∈ (("0123456789" : Str)).cps.toList) = (decide (48 ≤ c) && decide (c ≤ 57)) := by
  show decide (c ∈ [48, 49, 50, 51, 52, 53, 54, 55, 56, 57]) = _
  by_cases h : 48 ≤ c ∧ c ≤ 57
  · rw [decide_eq_true h.1, decide_eq_true h.2]
    have key : ∀ k : Fin 10, decide (48 + k.val ∈ [48, 49, 50, 51, 52, 53, 54, 55, 56, 57]) = true := by decide
    have := key ⟨c - 48, by omega⟩
    simp only [show 48 + (c - 48) = c by omega] at this
    exact this
  · have : ¬ c ∈ [48, 49, 50, 51, 52, 53, 54, 55, 56, 57] := fun m => by
      simp only [List.mem_cons, List.not_mem_nil, or_false] at m
      omega
    rw [decide_eq_false this]
    symm
    rw [Bool.and_eq_false_iff, decide_eq_false_iff_not, decide_eq_false_iff_not]
    omega
theorem bare_S (l : List Nat) : Txt.removeprefix (SX.S l) "-" = SX.S (bare l) := by
  rw [StrLaws.removeprefix_eq]
  unfold bare
  match l with
  | [] => rfl
  | c :: r =>
    by_cases h : c = 45
    · subst h
      rw [if_pos, if_pos (show (45 :: r).head? = some 45 from rfl)]
      · have e : ("-" : Str).length = 1 := rfl
        have e2 : (SX.S (45 :: r)).length = r.length + 1 := SX.S_len _
        rw [e, e2]
        show SX.S ((List.drop 1 (45 :: r)).take (r.length + 1 - 1)) = SX.S r
        rw [List.drop_succ_cons, List.drop_zero, Nat.add_sub_cancel, List.take_length]
      · have : Builtin.Str.subAt (SX.S (45 :: r)) "-" 0 = true := by
          unfold Builtin.Str.subAt
          have : (SX.S (45 :: r)).cps.extract 0 (0 + ("-" : Str).length) = #[45] := by
            show (45 :: r).toArray.extract 0 1 = _
            simp
          rw [this]
          rfl
        rw [this, Bool.and_true, decide_eq_true_eq]
        show 1 ≤ (45 :: r).toArray.size
        simp
    · rw [if_neg, if_neg (show ¬ (c :: r).head? = some 45 from fun z => h (Option.some.inj z))]
      have : Builtin.Str.subAt (SX.S (c :: r)) "-" 0 = false := by
        unfold Builtin.Str.subAt
        have : (SX.S (c :: r)).cps.extract 0 (0 + ("-" : Str).length) = #[c] := by
          show (c :: r).toArray.extract 0 1 = _
          simp
        rw [this]
        show (#[c] == #[45]) = false
        rw [beq_eq_false_iff_ne]
        intro z
        have := congrArg Array.toList z
        exact h (List.cons.inj this).1
      rw [this, Bool.and_false]
      exact Bool.false_ne_true
def oV : Option Int → V
  | none => .non
  | some n => .int n
theorem bare_len (l : List Nat) : (bare l).length ≤ l.length := by
  unfold bare
  split
  · rw [List.length_drop]
    omega
  · exact Nat.le_refl _
theorem sl_le {n : Nat} (h : n ≤ 100000) : n ≤ sizeLine := Nat.le_trans h (by decide)
theorem sl_lt {n : Nat} (h : n ≤ 100000) : n < sizeLine := Nat.lt_of_le_of_lt h (by decide)
def spWholeOf : Sp := fun vs H Q _ => ∃ l : List Nat, vs = [.str (SX.S l)] ∧ l.length ≤ 100000 ∧ ∀ H', Same H H' → Q (oV (wholeL l)) H'
theorem wholeL_some {l : List Nat} (h : figd l) (e : itx (valL l) = l) : oV (wholeL l) = .int (valL l) := by
  unfold wholeL
  rw [if_pos ((figd_numb h).mp e)]
  rfl
theorem wholeL_none1 {l : List Nat} (h : ¬ figd l) : oV (wholeL l) = .non := by
  unfold wholeL
  rw [not_figd h]
  rfl
theorem wholeL_none2 {l : List Nat} (h : figd l) (e : ¬ itx (valL l) = l) : oV (wholeL l) = .non := by
  unfold wholeL
  rw [if_neg (fun z => e ((figd_numb h).mpr z))]
  rfl
theorem eq_S (a b : List Nat) : decide (V.str (SX.S a) = V.str (SX.S b)) = decide (a = b) := by
  by_cases h : a = b
  · rw [h, decide_eq_true rfl, decide_eq_true rfl]
  · rw [decide_eq_false h, decide_eq_false]
    exact fun z => h (SX.S_inj (V.str.inj z))
/-- which signs of a text are such -/
def tSign (i : Nat) : TE := tOp (fun x y H Q => ∃ (c : Nat) (z : Str), x = .str ⟨#[c]⟩ ∧ y = .str z ∧ Q (.bl (decide (c ∈ z.cps.toList))) H) (tVar i) (tC (.str "0123456789"))
theorem at_S {l : List Nat} {i c : Nat} (h : (SX.S l).cps[i]? = some c) : l[i]? = some c := by
  have e : (SX.S l).cps[i]? = l[i]? := by simp [SX.S]
  rw [← e]
  exact h
theorem size_S (l : List Nat) : (SX.S l).cps.size = l.length := by simp [SX.S]
/-- a list of marks grows by one -/
theorem marks_grow {l : List Nat} {i c : Nat} {p : Nat → Bool} {H H4 : Hp} {Da : Addr} (hl : l.length ≤ 100000) (hD : H Da = none) (s4 : Same H H4) (hD4 : H4 Da = some (.lst ((l.take i).map fun c => V.bl (p c)))) (hc : l[i]? = some c) :
    ∃ acc, H4 Da = some (.lst acc) ∧ acc.length < sizeLine ∧ Same H (upd H4 Da (.lst (acc ++ [V.bl (p c)]))) ∧ (upd H4 Da (.lst (acc ++ [V.bl (p c)]))) Da = some (.lst ((l.take (i + 1)).map fun c => V.bl (p c))) := by
  refine ⟨_, hD4, ?_, fun b' o' e' => ?_, ?_⟩
  · rw [List.length_map, List.length_take]
    exact sl_lt (by omega)
  · rw [upd_ne (ne_of_none e' hD)]
    exact s4 _ _ e'
  · rw [upd_same, List.take_add_one, hc, List.map_append]
    rfl
section
variable {P : Program} {w : World} {K : PySem.W.Frag} {mg : Str → Option Value} {base : Heap}
theorem sc_whole_of : FnScope ["text", "figures", "number", "sign"] ["text"] (defScope s_whole_of) := ⟨rfl, rfl, rfl, by decide +kernel, rfl, by decide +kernel, by decide +kernel⟩
theorem ok_whole_of {f : Addr} {fd : FuncData} {k : Nat} (F : Fun K "whole_of" "whole_of" s_whole_of f fd) (z : Zs mg) {TF TM : Tok} (g_FIGURES : mg "FIGURES" = some (.str "0123456789" TF)) (g_MOST_FIGURES : mg "MOST_FIGURES" = some (.int 400 TM)) : FnOk P w K mg base CX0 (k + 1) f fd ["text"] spWholeOf := by
  refine F.ok sc_whole_of (fun vs H Q E h => ?_) (fun cdv A outer s H vs Q E hr h => ?_)
  · obtain ⟨l, rfl, _⟩ := h
    rfl
  · obtain ⟨l, rfl, hl, q⟩ := h
    refine ⟨_, (pss_cons (ps_set (i := 1) sc_whole_of.nd rfl (.inl rfl) (pe_bm PySem.F.plainAttrs_str PySem.F.slot_str_removeprefix PySem.F.type_str_removeprefix mt_removeprefix (pv 0) (pa_cons pe_str pa_nil)))
      (pss_cons (ps_if (PW.pt (pw_or (pt_not (pt_chain op_le op_le pe_int (pe_callB call_len_str (by rfl) z.len PySem.boot_len (pa_cons (pv 1) pa_nil)) (pe_glob (v := .int 400) (by rfl) g_MOST_FIGURES ⟨_, rfl⟩))) (pw_or1 (pt_not (pt_val (pe_callB (cr_all rfl) (by rfl) z.all (by decide +kernel) (pa_cons (pe_lc (own := [("sign", 3)]) (g := gName 3) (tt := tYes) (te := tSign 3) (by rfl) sc_whole_of.nd (pi_str (pv 1)) (blkOk_by (own := [("sign", 3)]) (N := ["text", "figures", "number", "sign"]) (sc := defScope s_whole_of) (by decide +kernel)) (fun _ _ _ _ _ => by exact (pg_name (i := 3) sc_whole_of.nd rfl (.inl rfl))) (fun _ _ _ _ _ => by exact pts_nil) (fun _ _ _ _ _ => by exact (pe_cmpR op_in_sign (pv 3) (pe_glob (v := .str "0123456789") (by rfl) g_FIGURES ⟨_, rfl⟩) (by rfl)))) pa_nil))))))) (pss_one (ps_ret pe_non)) pss_nil)
      (pss_cons (ps_set (i := 2) sc_whole_of.nd rfl (.inl rfl) (pe_callTy call_int_str (by rfl) z.int (by decide +kernel) (pa_cons (pv 0) pa_nil)))
      (pss_one (ps_ret (pe_ifExp (pt_cmpR op_eq (pe_joined1 (pe_fmt (pv 2))) (pv 0) (nomark _)) (pv 2) pe_non)))))), ?_⟩
    have bl := bare_len l
    have sb : (SX.S (bare l)).length = (bare l).length := SX.S_len _
    refine ⟨_, rfl, rfl, _, _, rfl, rfl, (by rw [SX.S_len]; exact sl_le hl), ?_⟩
    rw [bare_S]
    refine ⟨_, rfl, _, rfl, (by rw [sb]; exact sl_le (by omega)), _, _, rfl, rfl, _, rfl, ?_⟩
    rw [sb]
    have no : ∀ H', Same H H' → ¬ figd l → Q .non H' := fun H' s hf => by
      rw [← wholeL_none1 hf]
      exact q H' s
    refine ite2 (fun c1 => ⟨_, _, rfl, rfl, _, rfl, ?_⟩) (fun c1 => ⟨_, rfl, iteT (no _ (Same.refl _) fun hf => c1 (decide_eq_true (by have := hf.1; omega)))⟩)
    refine iteN (fun c2 => no _ (Same.refl _) fun hf => c2 (by have := hf.2.1; omega)) (fun c2 => ?_)
    refine ⟨_, rfl, _, rfl, fun Da hD => ?_⟩
    refine lc_it (walk_str (z := SX.S (bare l))) (fun i H4 => Same H H4 ∧ H4 Da = some (.lst (((bare l).take i).map fun c => V.bl (decide (48 ≤ c) && decide (c ≤ 57))))) ⟨same_new hD, upd_same⟩ (fun _ _ _ _ => trivial) (fun i x' H4 H5 hi hP hy => ?_) (fun H4 hP => ?_)
    · obtain ⟨s4, hD4⟩ := hP
      obtain ⟨rfl, c, hcc, rfl⟩ := hy
      refine ⟨rfl, _, rfl, c, _, rfl, rfl, ?_⟩
      rw [figs_mem]
      exact marks_grow (p := fun c => decide (48 ≤ c) && decide (c ≤ 57)) (by omega) hD s4 hD4 (at_S hcc)
    · obtain ⟨s4, hD4⟩ := hP
      rw [size_S, List.take_length] at hD4
      refine ⟨Da, (bare l).map (fun c => decide (48 ≤ c) && decide (c ≤ 57)), rfl, SqL.of (by rw [hD4, List.map_map]; rfl), ?_⟩
      rw [List.all_map]
      by_cases hf : figd l
      · have e1 : ((bare l).all (id ∘ fun c => decide (48 ≤ c) && decide (c ≤ 57))) = true := all_dig.mpr hf.2.2
        refine ⟨_, rfl, iteC (d := false) (by rw [e1]; rfl) (iteF ?_)⟩
        refine ⟨_, rfl, _, _, rfl, valL_int hf, (by rw [SX.S_len]; have := figd_len hf; omega), ?_⟩
        refine ⟨_, rfl, .inr ⟨_, rfl, log_val hf, ?_⟩⟩
        rw [int_itx]
        refine ⟨_, rfl, rfl, ?_⟩
        rw [eq_S]
        by_cases ht : itx (valL l) = l
        · rw [decide_eq_true ht]
          refine ⟨_, rfl, iteT ⟨_, rfl, ?_⟩⟩
          rw [← wholeL_some hf ht]
          exact q _ s4
        · rw [decide_eq_false ht]
          refine ⟨_, rfl, iteF ?_⟩
          have := q _ s4
          rw [wholeL_none2 hf ht] at this
          exact this
      · have e1 : ((bare l).all (id ∘ fun c => decide (48 ≤ c) && decide (c ≤ 57))) = false := by
          cases e : (bare l).all fun c => decide (48 ≤ c) && decide (c ≤ 57) with
          | false => exact e
          | true => exact absurd ⟨by have := toB c1; omega, by omega, all_dig.mp e⟩ hf
        exact ⟨_, rfl, iteC (d := true) (by rw [e1]; rfl) (iteT (no _ s4 hf))⟩
end
end E1

namespace E1
open PySem PySem.Spec PyProof.Rows L2
theorem Same.sqL {K : PySem.W.Frag} {H H' : Hp} {a : Addr} {xs : List V} (e : Same H H') (h : SqL K H a xs) : SqL K H' a xs := by
  rcases h with (h | ⟨o, h⟩) | h
  · exact .inl (.inl (e _ _ h))
  · exact .inl (.inr ⟨o, e _ _ h⟩)
  · exact .inr h
abbrev sV (l : List Nat) : V := .str (SX.S l)
theorem list_grow {α : Type} {l : List α} {i : Nat} {c : α} {p : α → V} {H H4 H5 : Hp} {Da : Addr} (hl : l.length ≤ 100000) (hD : H Da = none) (s4 : Same H H4) (hD4 : H4 Da = some (.lst ((l.take i).map p))) (s5 : Same H4 H5) (hc : l[i]? = some c) :
    ∃ acc, H5 Da = some (.lst acc) ∧ acc.length < sizeLine ∧ Same H (upd H5 Da (.lst (acc ++ [p c]))) ∧ (upd H5 Da (.lst (acc ++ [p c]))) Da = some (.lst ((l.take (i + 1)).map p)) := by
  refine ⟨_, s5 _ _ hD4, ?_, fun b' o' e' => ?_, ?_⟩
  · rw [List.length_map, List.length_take]
    exact sl_lt (by omega)
  · rw [upd_ne (ne_of_none e' hD)]
    exact s5 _ _ (s4 _ _ e')
  · rw [upd_same, List.take_add_one, hc, List.map_append]
    rfl
theorem emp_S (a : List Nat) : Str.empty ++ SX.S a = SX.S a := SX.S_cat [] a
def Raised (C : Addr) (fld : Str) (H : Hp) (E : XK) : Prop := ∀ d H', Same H H' → H' d = some (.xd [(fld, .int 0)]) → E (.ref C) (some d) H'
/-- a thing that is no text -/
def NoTxt (K : PySem.W.Frag) (H : Hp) (x : V) : Prop := (∃ t : String, TyX K H x (.type t) ∧ kitB t "str" = some false) ∨ ∃ C : Addr, TyX K H x (.ref C) ∧ PySem.W.kitOne K (.ref C) (.type "str") = some false
def spCheck (K : PySem.W.Frag) (CT : Addr) : Sp := fun vs H Q E => ∃ x : V, vs = [x] ∧ ((∃ z, x = .str z ∧ Q .non H) ∨ (NoTxt K H x ∧ Raised CT "line" H E))

def wholesL (ls : List (List Nat)) : Option (List Int) := if ls.all numb = true then some (ls.map valL) else none
def spWholesOf (K : PySem.W.Frag) : Sp := fun vs H Q _ => ∃ (a : Addr) (ls : List (List Nat)), vs = [.ref a] ∧ SqL K H a (ls.map sV) ∧ (∀ l ∈ ls, l.length ≤ 100000) ∧ ls.length ≤ 100000 ∧
  ∀ H', Same H H' → (wholesL ls = none → Q .non H') ∧ (∀ p ns, wholesL ls = some ns → H p = none → H' p = some (.lst (ns.map V.int)) → Q (.ref p) H')
theorem whole_flat (l : List Nat) : flatV (oV (wholeL l)) = true := by
  cases wholeL l <;> rfl
theorem whole_is (l : List Nat) : eqV (oV (wholeL l)) .non = !numb l := by
  unfold wholeL
  cases h : numb l
  · rfl
  · rfl
theorem wholes_in (ls : List (List Nat)) : inV .non (ls.map fun l => oV (wholeL l)) = !(ls.all numb) := by
  unfold inV
  rw [List.any_map, List.not_all_eq_any_not]
  congr 1
  funext l
  exact whole_is l
theorem wholes_int {ls : List (List Nat)} (h : ls.all numb = true) : (ls.map fun l => oV (wholeL l)) = (ls.map valL).map V.int := by
  rw [List.map_map]
  refine List.map_congr_left fun l hl => ?_
  have := List.all_eq_true.mp h l hl
  unfold wholeL
  rw [if_pos this]
  rfl

def spCkText : Sp := fun vs H Q _ => ∃ z : Str, vs = [.str z] ∧ Q .non H
section
variable {P : Program} {w : World} {K : PySem.W.Frag} {mg : Str → Option Value} {base : Heap}
theorem sc_wholes_of : FnScope ["texts", "numbers", "text"] ["texts"] (defScope s_wholes_of) := ⟨rfl, rfl, rfl, by decide +kernel, rfl, by decide +kernel, by decide +kernel⟩
theorem ok_wholes_of {f : Addr} {fd : FuncData} (F : Fun K "wholes_of" "wholes_of" s_wholes_of f fd) (c_whole_of : Cal P w K mg base 1 "whole_of" ["text"] spWholeOf) : FnOk P w K mg base CX0 2 f fd ["texts"] (spWholesOf K) := by
  refine F.ok sc_wholes_of (fun vs H Q E h => ?_) (fun cdv A outer s H vs Q E hr h => ?_)
  · obtain ⟨a, ls, rfl, _⟩ := h
    rfl
  · obtain ⟨a, ls, rfl, hS, h1, h2, q⟩ := h
    refine ⟨_, (pss_cons (ps_setLc (i := 1) (own := [("text", 2)]) (g := gName 2) (tt := tYes) (te := (tCall spWholeOf [] E0 (tCons (tVar 2) tNil))) (by rfl) sc_wholes_of.nd rfl rfl (sw_true rfl rfl rfl (by decide +kernel)) (pi_list (pv 0)) (blkOk_by (own := [("text", 2)]) (N := ["texts", "numbers", "text"]) (sc := defScope s_wholes_of) (by decide +kernel)) (fun _ _ _ _ _ => by exact (pg_name (i := 2) sc_wholes_of.nd rfl (.inl rfl))) (fun _ _ _ _ _ => by exact pts_nil) (fun _ _ _ _ _ => by exact (pe_cal c_whole_of hr (pa_cons (pv 2) pa_nil))))
      (pss_one (ps_ret (pe_ifExp (pt_cmpR op_in_seq pe_non (pv 1) (by rfl)) pe_non (pv 1))))), ?_⟩
    refine ⟨_, rfl, _, rfl, ⟨_, hS⟩, fun Da hD => ?_⟩
    refine lc_it (walk_list (K := K) (a := a) (xs := ls.map sV)) (fun i H4 => Same H H4 ∧ H4 Da = some (.lst ((ls.take i).map fun l => oV (wholeL l)))) ⟨same_new hD, upd_same⟩ (fun i H4 hi hP => Same.sqL hP.1 hS) (fun i x' H4 H5 hi hP hy => ?_) (fun H4 hP => ?_)
    · obtain ⟨s4, hD4⟩ := hP
      obtain ⟨rfl, hx⟩ := hy
      rw [List.getElem?_map] at hx
      obtain ⟨l, hl, rfl⟩ := Option.map_eq_some_iff.mp hx
      refine ⟨rfl, _, rfl, l, rfl, h1 l (List.mem_of_getElem? hl), fun H6 s6 => ?_⟩
      exact list_grow (p := fun l => oV (wholeL l)) h2 hD s4 hD4 s6 hl
    · obtain ⟨s4, hD4⟩ := hP
      rw [List.length_map, List.take_length] at hD4
      obtain ⟨q1, q2⟩ := q H4 s4
      refine ⟨_, rfl, Da, _, rfl, .inl (SqL.of hD4), rfl, ?_, _, rfl, ?_⟩
      · rw [List.all_map, List.all_eq_true]
        exact fun l _ => whole_flat l
      · show if inV .non _ = true then _ else _
        rw [wholes_in]
        cases e : ls.all numb with
        | true =>
          refine iteF ⟨_, rfl, q2 _ (ls.map valL) ?_ hD ?_⟩
          · unfold wholesL
            rw [if_pos e]
          · rw [hD4, wholes_int e]
        | false =>
          refine iteT (q1 ?_)
          unfold wholesL
          rw [e]
          rfl
theorem sc_check_text : FnScope ["thing"] ["thing"] (defScope s_check_text) := ⟨rfl, rfl, rfl, by decide +kernel, rfl, by decide +kernel, by decide +kernel⟩
theorem ok_check_text {f : Addr} {fd : FuncData} {k : Nat} (F : Fun K "check_text" "check_text" s_check_text f fd) (z : Zs mg) : FnOk P w K mg base CX0 (k + 1) f fd ["thing"] spCkText := by
  refine F.ok sc_check_text (fun vs H Q E h => ?_) (fun cdv A outer s H vs Q E hr h => ?_)
  · obtain ⟨x, rfl, _⟩ := h
    rfl
  · obtain ⟨x, rfl, q⟩ := h
    refine ⟨_, (pss_one (ps_if (pt_not (pt_val (pe_callB call_isi (by rfl) z.isinstance (by decide +kernel) (pa_cons (pv 0) (pa_cons (pe_bltn (v := .ty "str") (by rfl) z.str (by decide +kernel) rfl) pa_nil))))) (pss_one ps_never) pss_nil)), ?_⟩
    exact ⟨_, rfl, _, .ty "str", _, _, true, rfl, .ty _, .base (.str x), kit_ty (by decide +kernel), _, rfl, iteF q⟩
end
end E1

namespace E1
open PySem PySem.Spec PyProof.Rows L2
/-! ### a form's text: its parts, read back -/
theorem find_no {l : List Nat} {c : Nat} (h : c ∉ l) : Txt.find (SX.S l) (SX.S [c]) = -1 := by
  have e := SX.in_one l c
  rw [decide_eq_false h, Bool.not_eq_false'] at e
  unfold Txt.find
  rw [List.isEmpty_iff.mp e]
/-- a text and its first sign c -/
theorem first_of (c : Nat) : ∀ l : List Nat, c ∉ l ∨ ∃ p q, l = p ++ c :: q ∧ c ∉ p
  | [] => .inl (fun h => nomatch h)
  | x :: r => by
    by_cases e : x = c
    · exact .inr ⟨[], r, by rw [e]; rfl, fun h => nomatch h⟩
    · rcases first_of c r with h | ⟨p, q, rfl, h⟩
      · refine .inl fun m => ?_
        rcases List.mem_cons.mp m with m | m
        · exact e m.symm
        · exact h m
      · refine .inr ⟨x :: p, q, rfl, fun m => ?_⟩
        rcases List.mem_cons.mp m with m | m
        · exact e m.symm
        · exact h m
theorem index_at {p q : List Nat} {c : Nat} (h : c ∉ p) : Txt.index0 (SX.S (p ++ c :: q)) (SX.S [c]) = some p.length := by
  have e := SX.in_one (p ++ c :: q) c
  rw [decide_eq_true (by simp), Bool.not_eq_true'] at e
  have pp := SX.partition_some (a := p ++ c :: q) (b := [c]) (List.cons_ne_nil _ _) (SX.par_head (sep := []) q h)
  unfold Txt.index0
  unfold Txt.partition at pp
  have sp := PySem.StrLaws.occ_spec (SX.S (p ++ c :: q)) (SX.S [c]) 0 (SX.S (p ++ c :: q)).length 1
  generalize Builtin.Str.occurrences (SX.S (p ++ c :: q)) (SX.S [c]) 0 (SX.S (p ++ c :: q)).length 1 = os at *
  match os, e with
  | i :: r, _ =>
    have b := (sp i (List.mem_cons_self ..)).1
    rw [SX.S_len, SX.S_len] at b
    have f := congrArg (fun z => (TL.tl z.1).length) pp
    simp only [TL.tl_strSub, TL.tl_mk] at f
    rw [List.drop_zero, List.length_take] at f
    show some i = some p.length
    simp only [List.length_append, List.length_cons, List.length_nil] at b f
    congr 1
    omega
theorem spl_ne (s : Nat) : ∀ (l acc : List Nat), TL.spl [s] 0 acc l ≠ []
  | [], acc => by
    rw [TL.spl_nil]
    exact List.cons_ne_nil _ _
  | c :: r, acc => by
    cases h : TL.pre [s] (c :: r) with
    | true =>
      rw [TL.spl_hit h]
      exact List.cons_ne_nil _ _
    | false =>
      rw [TL.spl_miss h]
      exact spl_ne s r _
theorem split_at (s : Nat) (hs : s < 256) (l : List Nat) : (Txt.split (SX.S l) (SX.S [s])).map V.str = (TL.spl [s] 0 [] l).map sV := by
  rw [SX.split_S (List.cons_ne_nil _ _) (by simp [hs]), List.map_map]
  rfl
theorem spl_sizes (s : Nat) : ∀ (l acc : List Nat), (TL.spl [s] 0 acc l).length ≤ l.length + 1 ∧ ∀ p ∈ TL.spl [s] 0 acc l, p.length ≤ acc.length + l.length
  | [], acc => by
    rw [TL.spl_nil]
    exact ⟨Nat.le_refl _, fun p hp => by rw [List.mem_singleton.mp hp]; exact Nat.le_refl _⟩
  | c :: r, acc => by
    cases h : TL.pre [s] (c :: r) with
    | true =>
      rw [TL.spl_hit h]
      obtain ⟨a, b⟩ := spl_sizes s r []
      refine ⟨?_, fun p hp => ?_⟩
      · have : (TL.spl [s] 0 [] r).length ≤ r.length + 1 := a
        show (acc :: TL.spl [s] 0 [] r).length ≤ _
        rw [List.length_cons, List.length_cons]
        omega
      · rcases List.mem_cons.mp hp with rfl | hp
        · omega
        · have : p.length ≤ ([] : List Nat).length + r.length := b p hp
          rw [List.length_nil] at this
          rw [List.length_cons]
          omega
    | false =>
      rw [TL.spl_miss h]
      obtain ⟨a, b⟩ := spl_sizes s r (acc ++ [c])
      refine ⟨by rw [List.length_cons]; omega, fun p hp => ?_⟩
      have := b p hp
      rw [List.length_append, List.length_singleton] at this
      rw [List.length_cons]
      omega
def cutA : List Nat → List Nat
  | [] => []
  | x :: r => if x = 46 then [] else x :: cutA r
def cutB : List Nat → List Nat
  | [] => []
  | x :: r => if x = 46 then r else cutB r
theorem cut_at {p q : List Nat} : 46 ∉ p → cutA (p ++ 46 :: q) = p ∧ cutB (p ++ 46 :: q) = q := by
  induction p with
  | nil => exact fun _ => ⟨rfl, rfl⟩
  | cons x r ih =>
    intro h
    have n : ¬ x = 46 := fun e => h (by rw [e]; exact List.mem_cons_self ..)
    obtain ⟨a, b⟩ := ih fun m => h (List.mem_cons_of_mem _ m)
    exact ⟨by show (if x = 46 then [] else x :: cutA (r ++ 46 :: q)) = _; rw [if_neg n, a], by show (if x = 46 then r ++ 46 :: q else cutB (r ++ 46 :: q)) = _; rw [if_neg n, b]⟩
theorem cut_no : ∀ {l : List Nat}, 46 ∉ l → cutA l = l ∧ cutB l = []
  | [], _ => ⟨rfl, rfl⟩
  | x :: r, h => by
    have n : ¬ x = 46 := fun e => h (by rw [e]; exact List.mem_cons_self ..)
    obtain ⟨a, b⟩ := cut_no (l := r) fun m => h (List.mem_cons_of_mem _ m)
    exact ⟨by show (if x = 46 then _ else _) = _; rw [if_neg n, a], by show (if x = 46 then _ else _) = _; rw [if_neg n, b]⟩
theorem part_S (l : List Nat) : ∃ z : Str, Txt.partition (SX.S l) (SX.S [46]) = (SX.S (cutA l), z, SX.S (cutB l)) := by
  rcases first_of 46 l with h | ⟨p, q, rfl, h⟩
  · obtain ⟨a, b⟩ := cut_no h
    rw [a, b]
    exact ⟨_, TL.partition_none (s := 46) (S := []) rfl h⟩
  · obtain ⟨a, b⟩ := cut_at (q := q) h
    rw [a, b]
    exact ⟨_, SX.partition_some (a := p ++ 46 :: q) (b := [46]) (List.cons_ne_nil _ _) (SX.par_head (sep := []) q h)⟩
theorem cut_len : ∀ l : List Nat, (cutA l).length ≤ l.length ∧ (cutB l).length ≤ l.length
  | [] => ⟨Nat.le_refl _, Nat.le_refl _⟩
  | x :: r => by
    obtain ⟨a, b⟩ := cut_len r
    constructor
    · show (if x = 46 then _ else _ : List Nat).length ≤ _
      split
      · exact Nat.zero_le _
      · rw [List.length_cons, List.length_cons]
        omega
    · show (if x = 46 then _ else _ : List Nat).length ≤ _
      rw [List.length_cons]
      split <;> omega
def freeL : List Nat := [102, 114, 101, 101]
def widthL (l : List Nat) : Option (Option Int) := if l = freeL then some none else match wholeL l with
  | some n => if 2 ≤ n ∧ n ≤ 64 then some (some n) else none
  | none => none
def pointL (l : List Nat) : Option Int := match wholeL l with
  | some n => if -64 ≤ n ∧ n ≤ 64 then some n else none
  | none => none
def Mn.l : Mn → List Nat
  | .down => [100, 111, 119, 110]
  | .up => [117, 112]
  | .inn => [105, 110]
  | .out => [111, 117, 116]
  | .half => [104, 97, 108, 102]
  | .even => [101, 118, 101, 110]
  | .far => [102, 97, 114]
theorem Mn.l_str (m : Mn) : m.str = SX.S m.l := by cases m <;> rfl
def endL : Bool → List Nat
  | true => [115, 116, 111, 112]
  | false => [119, 114, 97, 112]
theorem endL_str (b : Bool) : endS b = SX.S (endL b) := by cases b <;> rfl
def mannerL (l : List Nat) : Option Mn := [Mn.down, .up, .inn, .out, .half, .even, .far].find? fun m => decide (m.l = l)
def endsL (l : List Nat) : Option Bool := [false, true].find? fun b => decide (endL b = l)
theorem mannerL_some {l : List Nat} {m : Mn} (h : mannerL l = some m) : m.l = l := of_decide_eq_true (List.find?_some h :)
theorem mannerL_l (m : Mn) : mannerL m.l = some m := by cases m <;> rfl
theorem mannerL_none {l : List Nat} (h : mannerL l = none) (m : Mn) : m.l ≠ l := fun e => by rw [← e, mannerL_l] at h; cases h
theorem endsL_some {l : List Nat} {b : Bool} (h : endsL l = some b) : endL b = l := of_decide_eq_true (List.find?_some h :)
theorem endsL_l (b : Bool) : endsL (endL b) = some b := by cases b <;> rfl
theorem endsL_none {l : List Nat} (h : endsL l = none) (b : Bool) : endL b ≠ l := fun e => by rw [← e, endsL_l] at h; cases h
def rdParts : List (List Nat) → Option (Option Int × Int × Mn × Bool)
  | [a, b, c] => match widthL (cutA a), pointL (cutB a), mannerL b, endsL c with
    | some w, some p, some m, some e => some (w, p, m, e)
    | _, _, _, _ => none
  | _ => none
theorem rdParts_three (a b c : List Nat) : rdParts [a, b, c] = match widthL (cutA a), pointL (cutB a), mannerL b, endsL c with
    | some w, some p, some m, some e => some (w, p, m, e)
    | _, _, _, _ => none := rfl
def rdF (l : List Nat) : Option (Option Int × Int × Mn × Bool) := rdParts (TL.spl [32] 0 [] l)
def wT : Option Int → List Nat
  | none => freeL
  | some n => itx n
def formT (w : Option Int) (pt : Int) (m : Mn) (st : Bool) : List Nat := wT w ++ 46 :: (itx pt ++ 32 :: (m.l ++ 32 :: endL st))
theorem small_ten {n : Int} (h : -64 ≤ n ∧ n ≤ 64) : n.natAbs < 10 ^ 400 := Nat.lt_of_le_of_lt (show n.natAbs ≤ 64 by omega) (by decide +kernel)
theorem whole_itx {n : Int} (h : n.natAbs < 10 ^ 400) : wholeL (itx n) = some n := by
  unfold wholeL
  rw [if_pos (itx_numb h), (itx_figd h).2]
theorem whole_back {l : List Nat} {n : Int} (h : wholeL l = some n) : itx n = l := by
  unfold wholeL at h
  split at h
  · next c =>
    cases h
    have f : figd l := Classical.byContradiction fun z => by rw [not_figd z] at c; cases c
    exact (figd_numb f).mpr c
  · cases h
theorem itx_digs {n : Int} (h : n.natAbs < 10 ^ 400) {c : Nat} (m : c ∈ itx n) : c = 45 ∨ (48 ≤ c ∧ c ≤ 57) := by
  unfold itx at m
  split at m
  · rcases List.mem_cons.mp m with e | m
    · exact .inl e
    · exact .inr (TL.numL_digits _ _ m)
  · exact .inr (TL.numL_digits _ _ m)
theorem itx_free4 {n : Int} (h : n.natAbs < 10 ^ 400) : itx n ≠ freeL := fun e => by
  have := itx_digs h (c := 102) (by rw [e]; exact List.mem_cons_self ..)
  omega
theorem widthL_wT {w : Option Int} (h : WOk w) : widthL (wT w) = some w := by
  unfold widthL
  cases w with
  | none => rfl
  | some n =>
    obtain ⟨a, b⟩ := h n rfl
    have hn := small_ten (n := n) (by omega)
    show (if itx n = freeL then some none else match wholeL (itx n) with | some n => if 2 ≤ n ∧ n ≤ 64 then some (some n) else none | none => none) = _
    rw [if_neg (itx_free4 hn)]
    show (match wholeL (itx n) with | some n => if 2 ≤ n ∧ n ≤ 64 then some (some n) else none | none => none) = _
    rw [whole_itx hn]
    exact if_pos ⟨a, b⟩
theorem widthL_some {l : List Nat} {w : Option Int} (h : widthL l = some w) : l = wT w ∧ WOk w := by
  unfold widthL at h
  split at h
  · next c =>
    cases h
    exact ⟨c, fun _ z => by cases z⟩
  · split at h
    · next n e =>
      split at h
      · next k =>
        cases h
        exact ⟨(whole_back e).symm, fun _ z => by cases z; exact k⟩
      · cases h
    · cases h
theorem pointL_itx {n : Int} (h : -64 ≤ n ∧ n ≤ 64) : pointL (itx n) = some n := by
  unfold pointL
  rw [whole_itx (small_ten h)]
  exact if_pos h
theorem pointL_some {l : List Nat} {n : Int} (h : pointL l = some n) : l = itx n ∧ -64 ≤ n ∧ n ≤ 64 := by
  unfold pointL at h
  split at h
  · next k e =>
    split at h
    · next b =>
      cases h
      exact ⟨(whole_back e).symm, b⟩
    · cases h
  · cases h
theorem whole_nil : wholeL [] = none := rfl
theorem pointL_nil : pointL [] = none := rfl
theorem free_32 : (32 : Nat) ∉ freeL ∧ (46 : Nat) ∉ freeL := by decide
theorem wT_free {w : Option Int} (h : WOk w) {c : Nat} (hc : c = 32 ∨ c = 46) : c ∉ wT w := fun m => by
  cases w with
  | none => rcases hc with rfl | rfl; exact free_32.1 m; exact free_32.2 m
  | some n =>
    obtain ⟨a, b⟩ := h n rfl
    have := itx_digs (small_ten (n := n) (by omega)) m
    omega
theorem mn_free (m : Mn) : (32 : Nat) ∉ m.l := by cases m <;> decide
theorem end_free (b : Bool) : (32 : Nat) ∉ endL b := by cases b <;> decide
theorem formT_join (w : Option Int) (pt : Int) (m : Mn) (st : Bool) : formT w pt m st = TL.joinL [32] [wT w ++ 46 :: itx pt, m.l, endL st] := by
  show _ = (wT w ++ 46 :: itx pt) ++ ([32] ++ (m.l ++ ([32] ++ endL st)))
  unfold formT
  simp
theorem formT_spl {w : Option Int} {pt : Int} (m : Mn) (st : Bool) (hw : WOk w) (hp : -64 ≤ pt ∧ pt ≤ 64) : TL.spl [32] 0 [] (formT w pt m st) = [wT w ++ 46 :: itx pt, m.l, endL st] := by
  rw [formT_join]
  refine SX.spl_join (List.cons_ne_nil _ _) fun p h => ?_
  simp only [List.mem_cons, List.not_mem_nil, or_false] at h
  rcases h with rfl | rfl | rfl
  · intro z
    rcases List.mem_append.mp z with z | z
    · exact wT_free hw (.inl rfl) z
    · rcases List.mem_cons.mp z with z | z
      · cases z
      · have := itx_digs (small_ten hp) z
        omega
  · exact mn_free m
  · exact end_free st
theorem rdF_form {w : Option Int} {pt : Int} (m : Mn) (st : Bool) (hw : WOk w) (hp : -64 ≤ pt ∧ pt ≤ 64) : rdF (formT w pt m st) = some (w, pt, m, st) := by
  unfold rdF
  rw [formT_spl m st hw hp]
  obtain ⟨a, b⟩ := cut_at (q := itx pt) (wT_free hw (.inr rfl))
  show (match widthL (cutA (wT w ++ 46 :: itx pt)), pointL (cutB (wT w ++ 46 :: itx pt)), mannerL m.l, endsL (endL st) with
    | some w, some p, some m, some e => some (w, p, m, e)
    | _, _, _, _ => none) = _
  rw [a, b, widthL_wT hw, pointL_itx hp, mannerL_l, endsL_l]
theorem join_spl (s : Nat) : ∀ (l acc : List Nat), TL.joinL [s] (TL.spl [s] 0 acc l) = acc ++ l
  | [], acc => by
    rw [TL.spl_nil, List.append_nil]
    rfl
  | c :: r, acc => by
    cases h : TL.pre [s] (c :: r) with
    | true =>
      rw [TL.spl_hit h]
      have ih := join_spl s r []
      have e : c = s := by
        unfold TL.pre at h
        simpa using h
      show TL.joinL [s] (acc :: TL.spl [s] 0 [] r) = _
      have ne := spl_ne s r []
      match hm : TL.spl [s] 0 [] r, ne with
      | p :: q, _ =>
        rw [hm] at ih
        show acc ++ ([s] ++ TL.joinL [s] (p :: q)) = _
        rw [ih, e]
        rfl
    | false =>
      rw [TL.spl_miss h]
      have ih := join_spl s r (acc ++ [c])
      rw [ih]
      simp
theorem rdF_back {l : List Nat} {w : Option Int} {pt : Int} {m : Mn} {st : Bool} (h : rdF l = some (w, pt, m, st)) : l = formT w pt m st ∧ WOk w ∧ -64 ≤ pt ∧ pt ≤ 64 := by
  have j := join_spl 32 l []
  rw [List.nil_append] at j
  unfold rdF at h
  generalize TL.spl [32] 0 [] l = ls at *
  match ls, h with
  | [a, b, c], h =>
    rw [rdParts_three] at h
    cases e1 : widthL (cutA a) with
    | none => rw [e1] at h; cases h
    | some w' =>
    cases e2 : pointL (cutB a) with
    | none => rw [e1, e2] at h; cases h
    | some p' =>
    cases e3 : mannerL b with
    | none => rw [e1, e2, e3] at h; cases h
    | some m' =>
    cases e4 : endsL c with
    | none => rw [e1, e2, e3, e4] at h; cases h
    | some s' =>
      rw [e1, e2, e3, e4] at h
      cases h
      obtain ⟨a1, hw⟩ := widthL_some e1
      obtain ⟨a2, hp⟩ := pointL_some e2
      refine ⟨?_, hw, hp⟩
      rw [← j, formT_join, mannerL_some e3, endsL_some e4]
      have : a = wT w ++ 46 :: itx pt := by
        rcases first_of 46 a with n | ⟨p, q, rfl, n⟩
        · rw [(cut_no n).2, pointL_nil] at e2
          cases e2
        · obtain ⟨x, y⟩ := cut_at (q := q) n
          rw [x] at a1
          rw [y] at a2
          rw [a1, a2]
      rw [this]
theorem formT_len {w : Option Int} {pt : Int} (m : Mn) (st : Bool) (hw : WOk w) (hp : -64 ≤ pt ∧ pt ≤ 64) : (formT w pt m st).length ≤ 30 := by
  have key : ∀ n : Int, -64 ≤ n → n ≤ 64 → (itx n).length ≤ 3 := fun n h0 h1 => by
    have := ts_len h0 h1
    rw [int_itx, SX.S_len] at this
    exact this
  have l1 : (wT w).length ≤ 4 := by
    cases w with
    | none => exact Nat.le_refl _
    | some n =>
      obtain ⟨a, b⟩ := hw n rfl
      have := key n (by omega) (by omega)
      show (itx n).length ≤ 4
      omega
  have l2 := key pt hp.1 hp.2
  have l3 : m.l.length ≤ 4 := by cases m <;> decide
  have l4 : (endL st).length ≤ 4 := by cases st <;> decide
  unfold formT
  simp only [List.length_append, List.length_cons]
  omega
theorem strF_S (w : Option Int) (pt : Int) (m : Mn) (st : Bool) : strF w pt m st = SX.S (formT w pt m st) := by
  have sp : Str.ofString " " = SX.S [32] := rfl
  have dt : Str.ofString "." = SX.S [46] := rfl
  have fr : Str.ofString "free." = SX.S (freeL ++ [46]) := rfl
  have em : Str.empty = SX.S [] := rfl
  unfold strF formT
  cases w with
  | none =>
    show Str.empty ++ Str.ofString "free." ++ Str.ofString (toString pt) ++ Str.ofString " " ++ m.str ++ Str.ofString " " ++ endS st = _
    rw [em, fr, int_itx, sp, Mn.l_str, endL_str]
    simp only [SX.S_cat]
    congr 1
    simp [wT]
  | some n =>
    show Str.empty ++ Str.ofString (toString n) ++ Str.ofString "." ++ Str.ofString (toString pt) ++ Str.ofString " " ++ m.str ++ Str.ofString " " ++ endS st = _
    rw [em, dt, int_itx, int_itx, sp, Mn.l_str, endL_str]
    simp only [SX.S_cat]
    congr 1
    simp [wT]
end E1

namespace E1
open PySem PySem.Spec PyProof.Rows L2
/-! ### objects made by a making that may raise -/
section
variable {X : Cx} {k j : Nat} {C : Addr} {x : Str} {ps : List Str} {dvs : List V} {sp : Sp} {e : Expr} {es : List Expr} {t : TA} {p pos : Pos}
def CalCX (P : Program) (w : World) (K : PySem.W.Frag) (mg : Str → Option Value) (base : Heap) (k : Nat) (x : Str) (C : Addr) (ps : List Str) (dvs : List V) (sp : Sp) : Prop :=
  ∃ (f : Addr) (fd : FuncData) (ds : List Value), Mk K C f ∧ mg x = some (.ref C) ∧ Vals dvs ds ∧ Binds K fd ps ds ∧ FnOk P w K mg base (L2.CX P w) k f fd ps sp
/-- outside a try: nothing is raised there -/
theorem pe_calcx (h : CalCX X.prog X.w X.K X.mg X.base k x C ps dvs sp) (hr : Room j X.A) (ha : PA X (e :: es) t) (hle : k + 1 ≤ j := by decide) (hg : Gl X x := by rfl)
    (hdb : (x == ("__debug__" : Str)) = false := by decide) (he : starEach (e :: es) X.env = (false, eval e X.env) :: starEach es X.env := by rfl) (hpl : (backTo pos (starEach es X.env)).any (·.1) = false := by rfl) :
    PE X (.Call (.Name x p) (e :: es) [] pos) (tMake C sp dvs E0 t) := by
  obtain ⟨f, fd, ds, h1, h2, h3, h4, h5⟩ := h
  exact pe_make h1 h5 (hr.mono hle) hg h2 h4 h3 passL ha hdb he hpl
/-- within a try: the try's wish W sees the slots as they stand -/
def tMakeS (C : Addr) (sp : Sp) (dvs : List V) (W : WX) (t : TA) : TE := fun σ H Q => t σ H fun vs G => ∀ o d, G o = none → G d = none → d ≠ o → sp (.ref o :: (vs ++ dvs)) (upd (upd G d (.own o)) o (.ins C d [])) (fun v G' => v = .non ∧ Q (.ref o) G') (WE W σ)
theorem pe_calcS {W : WX} (h : CalCX X.prog X.w X.K X.mg X.base k x C ps dvs sp) (hr : Room j X.A) (tk : Takes X W) (ha : PA X (e :: es) t) (hle : k + 1 ≤ j := by decide) (hg : Gl X x := by rfl)
    (hdb : (x == ("__debug__" : Str)) = false := by decide) (he : starEach (e :: es) X.env = (false, eval e X.env) :: starEach es X.env := by rfl) (hpl : (backTo pos (starEach es X.env)).any (·.1) = false := by rfl) :
    PE X (.Call (.Name x p) (e :: es) [] pos) (tMakeS C sp dvs W t) := by
  obtain ⟨f, fd, ds, M, hm, vals, bind, F⟩ := h
  refine ⟨fun pins s σ H Q I q => wpAny_Call_Name_kw (ld_glob I hg hm ?_ hdb)⟩
  refine PySem.W.callWith_K (h₀ := X.base) I.ok.mod.kin M.kp (thn (ha.run pos pins s σ H _ I q) fun us s' ⟨vs, G, J, rv, q'⟩ => ⟨J.kIn, ?_⟩) he hpl
  obtain ⟨n, hn⟩ : ∃ n, n = s'.heap.objs.size := ⟨_, rfl⟩
  have free : G n = none ∧ G (n + 1) = none := by
    rw [hn]
    exact ⟨J.hok.fresh (Nat.le_refl _), J.hok.fresh (Nat.le_succ _)⟩
  have told := q' (n + 1) n free.2 free.1 (Nat.ne_of_lt (Nat.lt_succ_self _))
  rw [hn] at told
  have J' := Inv.made (C := C) J
  have rr : Vals (V.ref (s'.heap.objs.size + 1) :: (vs ++ dvs)) (Value.ref (s'.heap.objs.size + 1) :: (us ++ ds)) := .cons rfl (rv.append vals)
  have many : (Value.ref (s'.heap.objs.size + 1) :: us ++ ds).length = ps.length := (rr.length.symm.trans (F.len _ _ _ _ told) :)
  have room : Room (k + 1) X.A := hr.mono hle
  have ran := F.run _ X.stack _ _ ⟨Value.ref (s'.heap.objs.size + 1) :: us, []⟩ (Value.ref (s'.heap.objs.size + 1) :: (us ++ ds)) _ _ (WE W σ) (room.make C us []) (J'.env0.make C us []) (bind _ (Value.ref (s'.heap.objs.size + 1) :: us) J'.kIn many) rr told
  refine wpAny_call (make_map (f := f) J.kIn M.makes M.init (beq_iff_eq.mp M.fn) (codeAny_mono ran fun r s'' got => ?_))
  rcases r with e | fl
  · exact passAt tk σ pins _ _ e s'' J' got
  · rcases fl with _ | _ | _ | u
    all_goals first | exact got.elim | skip
    obtain ⟨v, G', J3, rel, ev, fin⟩ := J'.after got
    subst ev
    exact ⟨rel, ⟨V.ref (s'.heap.objs.size + 1), G', J3, rfl, fin⟩⟩
end

/-- the dict of manners: no other text is in it -/
def keysIn (es : List DictEntry) (l : List Str) : Bool := es.all fun e => match e.key with
  | .str s _ => l.any fun y => y == s
  | _ => false
theorem nsIn_none {K : PySem.W.Frag} {A : Addr} {ty : Value} {od : Option Addr} {es : Array DictEntry} {n : Nat} {sl : Array (Option Value)} {l : List Str} {y : Str} (h : K.lookup A = some ⟨ty, od, .dict es n, sl⟩) (k : keysIn es.toList l = true) (ny : ∀ z ∈ l, z ≠ y) : PySem.W.nsIn K A y = some none := by
  unfold keysIn at k
  rw [List.all_eq_true] at k
  have key : ∀ e ∈ es.toList, e.key.isStr y = false ∧ e.refKey = false := fun e he => by
    have ke := k e he
    split at ke
    · next s t ek =>
      obtain ⟨z, hz, e2⟩ := List.any_eq_true.mp ke
      have e3 : z = s := eq_of_beq e2
      constructor
      · rw [ek]
        show (s == y) = false
        rw [← e3]
        exact beq_eq_false_iff_ne.mpr (ny z hz)
      · unfold DictEntry.refKey
        rw [ek]
    · cases ke
  unfold PySem.W.nsIn
  rw [h]
  have f : es.toList.find? (·.key.isStr y) = none := List.find?_eq_none.mpr fun e he => by rw [(key e he).1]; exact Bool.false_ne_true
  have r : es.toList.any (·.refKey) = false := by
    rw [List.any_eq_false]
    exact fun e he => by rw [(key e he).2]; exact Bool.false_ne_true
  simp only [f, r]
  rfl
def NoMan (K : PySem.W.Frag) (dM : Addr) : Prop := ∀ y : Str, (∀ m : Mn, m.str ≠ y) → PySem.W.nsIn K dM y = some none
theorem man_is {K : PySem.W.Frag} {dM : Addr} (N : NoMan K dM) (H : Hp) (l : List Nat) : MannerIs K H dM (sV l) (mannerL l).isSome := by
  cases e : mannerL l with
  | some m => exact .inl ⟨m, by rw [Mn.l_str, mannerL_some e], rfl⟩
  | none => exact .inr (.inl ⟨_, rfl, N _ fun m z => mannerL_none e m (SX.S_inj (by rw [← Mn.l_str]; exact z)), rfl⟩)
theorem ends_is (K : PySem.W.Frag) (H : Hp) (l : List Nat) : EndsIs K H (sV l) (endsL l).isSome := by
  refine .inl ⟨_, rfl, ?_⟩
  have e1 : Str.ofString "wrap" = SX.S (endL false) := rfl
  have e2 : Str.ofString "stop" = SX.S (endL true) := rfl
  unfold inV
  rw [List.any_cons, List.any_cons, List.any_nil, Bool.or_false]
  show _ = ((Str.ofString "wrap" == SX.S l) || (Str.ofString "stop" == SX.S l))
  rw [e1, e2, SX.S_beq_eq, SX.S_beq_eq]
  cases e : endsL l with
  | some b =>
    have := endsL_some e
    cases b
    · rw [decide_eq_true this]
      rfl
    · rw [decide_eq_true this, Bool.or_true]
      rfl
  | none => rw [decide_eq_false (endsL_none e false), decide_eq_false (endsL_none e true)]; rfl
theorem width_is (K : PySem.W.Frag) (H : Hp) {x : V} {l : List Nat} (h : (l = freeL ∧ x = .non) ∨ (l ≠ freeL ∧ ∃ n, wholeL l = some n ∧ x = .int n)) : WidthIs K H x (widthL l).isSome ∧ ∀ w, widthL l = some w → x = wV w := by
  unfold widthL
  rcases h with ⟨e, rfl⟩ | ⟨ne, n, e, rfl⟩
  · rw [if_pos e]
    exact ⟨.inl ⟨none, rfl, (fun _ z => by cases z), rfl⟩, fun w z => by cases z; rfl⟩
  · rw [if_neg ne]
    show WidthIs K H (.int n) (match wholeL l with | some n => if 2 ≤ n ∧ n ≤ 64 then some (some n) else none | none => none).isSome ∧ ∀ w, (match wholeL l with | some n => if 2 ≤ n ∧ n ≤ 64 then some (some n) else none | none => none) = some w → V.int n = wV w
    rw [e]
    by_cases c : 2 ≤ n ∧ n ≤ 64
    · simp only [if_pos c]
      exact ⟨.inl ⟨some n, rfl, (fun _ z => by cases z; exact c), rfl⟩, fun w z => by cases z; rfl⟩
    · simp only [if_neg c]
      exact ⟨.inr (.inl ⟨n, rfl, c, rfl⟩), fun w z => by cases z⟩
theorem point_is (K : PySem.W.Frag) (H : Hp) (l : List Nat) : PointIs K H (oV (wholeL l)) (pointL l).isSome ∧ ∀ p, pointL l = some p → oV (wholeL l) = .int p := by
  unfold pointL
  cases e : wholeL l with
  | none => exact ⟨.inr ⟨rfl, .inr (.inr ⟨rfl, _, .base .non, by decide +kernel⟩)⟩, fun p z => by cases z⟩
  | some n =>
    by_cases c : -64 ≤ n ∧ n ≤ 64
    · simp only [if_pos c]
      exact ⟨.inl ⟨n, rfl, (decide_eq_true c).symm⟩, fun p z => by cases z; rfl⟩
    · simp only [if_neg c]
      exact ⟨.inl ⟨n, rfl, (decide_eq_false c).symm⟩, fun p z => by cases z⟩
def spShowFm (C : Addr) : Sp := fun vs H Q _ => ∃ (p : Addr) (w : Option Int) (pt : Int) (m : Mn) (st : Bool), vs = [.ref p] ∧ FormAt C H p w pt m st ∧ Q (sV (formT w pt m st)) H
def spFormOf (C : Addr) : Sp := fun vs H Q _ => ∃ l : List Nat, vs = [sV l] ∧ l.length ≤ 90000 ∧ (rdF l = none → ∀ H', Same H H' → Q .non H') ∧ ∀ w pt m st, rdF l = some (w, pt, m, st) → ∀ p H', Same H H' → H p = none → FormAt C H' p w pt m st → Q (.ref p) H'
def spReadFm (K : PySem.W.Frag) (C CT : Addr) : Sp := fun vs H Q E => ∃ x : V, vs = [x] ∧ ((∃ l, x = sV l ∧ l.length ≤ 90000 ∧ (rdF l = none → Raised CT "line" H E) ∧ ∀ w pt m st, rdF l = some (w, pt, m, st) → ∀ p H', Same H H' → H p = none → FormAt C H' p w pt m st → Q (.ref p) H') ∨ (NoTxt K H x ∧ Raised CT "line" H E))
theorem made_same {H H' : Hp} {x dx C : Addr} (hx : H x = none) (hdx : H dx = none) (kp : ∀ b o, b ≠ x → (upd (upd H dx (.own x)) x (.ins C dx [])) b = some o → H' b = some o) : Same H H' := fun b o e => kp b o (ne_of_none e hx) (by rw [upd_ne (ne_of_none e hx), upd_ne (ne_of_none e hdx)]; exact e)
theorem emp_ne (l : List Nat) : ¬ l = [] → (SX.S l).length ≠ 0 := fun h e => h (List.length_eq_zero_iff.mp (by rw [← e, SX.S_len]))
section
variable {P : Program} {w : World} {K : PySem.W.Frag} {mg : Str → Option Value} {base : Heap}
theorem sc_form_of : FnScope ["text", "words", "width_text", "dot", "point_text", "width"] ["text"] (defScope s_form_of) := ⟨rfl, rfl, rfl, by decide +kernel, rfl, by decide +kernel, by decide +kernel⟩
theorem ok_form_of {f : Addr} {fd : FuncData} {dM C CB : Addr} (NM : NoMan K dM) (gB : mg "BadForm" = some (.ref CB)) (xB : PySem.W.exmOne K (.ref CB) (.ref CB) = some true) {TFr : Tok} (g_FREE : mg "FREE" = some (.str "free" TFr)) (F : Fun K "form_of" "form_of" s_form_of f fd) (z : Zs mg) (c_whole_of : Cal P w K mg base 1 "whole_of" ["text"] spWholeOf) (c_Form : CalCX P w K mg base 3 "Form" C ["self", "width", "point", "manner", "ends"] [] (spInitB K dM C CB)) : FnOk P w K mg base CX0 5 f fd ["text"] (spFormOf C) := by
  refine F.ok sc_form_of (fun vs H Q E h => ?_) (fun cdv A outer s H vs Q E hr h => ?_)
  · obtain ⟨l, rfl, _⟩ := h
    rfl
  · obtain ⟨l, rfl, hl, q1, q2⟩ := h
    refine ⟨_, (pss_cons (ps_set (i := 1) sc_form_of.nd rfl (.inl rfl) (pe_split (pv 0) pe_str))
      (pss_cons (ps_if (pt_cmpR op_ne (pe_callB call_len_seq (by rfl) z.len PySem.boot_len (pa_cons (pv 1) pa_nil)) pe_int (nomark _)) (pss_one (ps_ret pe_non)) pss_nil)
      (pss_cons (ps_asg (pe_partition (pe_ix ix_list (pv 1) pe_int (fun _ _ => rfl)) pe_str) (pg_tup (by rfl) (pgs_cons (pg_name (i := 2) sc_form_of.nd rfl (.inl rfl)) (pgs_cons (pg_name (i := 3) sc_form_of.nd rfl (.inl rfl)) (pgs_cons (pg_name (i := 4) sc_form_of.nd rfl (.inl rfl)) pgs_nil)))))
      (pss_cons (ps_set (i := 5) sc_form_of.nd rfl (.inl rfl) (pe_ifExp (pt_cmpR op_eq (pv 2) (pe_glob (v := .str "free") (by rfl) g_FREE ⟨_, rfl⟩) (nomark _)) pe_non (pe_cal c_whole_of hr (pa_cons (pv 2) pa_nil))))
      (pss_cons (ps_if (PW.pt (pw_and (pt_cmpR op_isN (pv 5) pe_non (nomark _)) (pw_and1 (pt_cmpR op_ne (pv 2) (pe_glob (v := .str "free") (by rfl) g_FREE ⟨_, rfl⟩) (nomark _))))) (pss_one (ps_ret pe_non)) pss_nil)
      (pss_one (ps_try_only (c := .ref CB) (tb := fun W => tRet (tMakeS C (spInitB K dM C CB) [] W (tCons (tVar 5) (tCons (tCall spWholeOf [] E0 (tCons (tVar 4) tNil)) (tCons (tOp (rIxL K) (tVar 1) (tC (.int 1))) (tCons (tOp (rIxL K) (tVar 1) (tC (.int 2))) tNil)))))) (ts := fun _ _ _ => tRet (tC .non)) rfl rfl ⟨rfl, by decide, .inl gB⟩ takes0 (fun W pn xe tk _ => pss_one (ps_ret (pe_calcS c_Form hr tk (pa_cons (pv 5) (pa_cons (pe_cal c_whole_of hr (pa_cons (pv 4) pa_nil)) (pa_cons (pe_ix ix_list (pv 1) pe_int (fun _ _ => rfl)) (pa_cons (pe_ix ix_list (pv 1) pe_int (fun _ _ => rfl)) pa_nil))))))) (fun a oe cls d pn hz hf => pss_one (ps_ret pe_non))))))))), ?_⟩
    have ls : (SX.S l).length + 2 ≤ sizeLine := by rw [SX.S_len]; exact sl_le (by omega)
    unfold rdF at q1 q2
    obtain ⟨sz1, sz2⟩ := spl_sizes 32 l []
    refine ⟨_, rfl, ⟨_, rfl⟩, _, _, rfl, rfl, rfl, ls, fun Wd hWd => ?_⟩
    have s1 := same_new (o := .lst ((Txt.split (SX.S l) (Str.ofString " ")).map V.str)) hWd
    have hW : (upd H Wd (.lst ((Txt.split (SX.S l) (Str.ofString " ")).map V.str))) Wd = some (.lst ((TL.spl [32] 0 [] l).map sV)) := by rw [← split_at 32 (by decide) l]; exact upd_same
    generalize upd H Wd (.lst ((Txt.split (SX.S l) (Str.ofString " ")).map V.str)) = H1 at *
    generalize TL.spl [32] 0 [] l = ws at *
    refine ⟨_, rfl, Wd, _, rfl, .inl (SqL.of hW), rfl, _, rfl, ?_⟩
    by_cases c3 : ws.length = 3
    case neg =>
      refine iteC (d := true) ?_ (iteT (q1 ?_ _ s1))
      · rw [List.length_map, Bool.not_eq_true', decide_eq_false_iff_not]
        exact fun z => c3 (by have := V.int.inj z; omega)
      · match ws, c3 with
        | [], _ => rfl
        | [_], _ => rfl
        | [_, _], _ => rfl
        | [_, _, _], c => exact absurd rfl c
        | _ :: _ :: _ :: _ :: _, _ => rfl
    match ws, c3 with
    | [a, b, c], _ =>
    refine iteC (d := false) rfl (iteF ?_)
    have la : a.length ≤ 90000 := by
      have := sz2 a (List.mem_cons_self ..)
      rw [List.length_nil] at this
      omega
    obtain ⟨ca, cb⟩ := cut_len a
    obtain ⟨zz, pp⟩ := part_S a
    refine ⟨_, rfl, Wd, _, 0, sV a, rfl, rfl, SqL.of hW, a0, ⟨_, rfl⟩, _, _, rfl, rfl, rfl, (by rw [SX.S_len]; exact sl_le (by omega)), fun tp htp => ?_⟩
    have s2 := same_new (o := .tup [.str (Txt.partition (SX.S a) (Str.ofString ".")).1, .str (Txt.partition (SX.S a) (Str.ofString ".")).2.1, .str (Txt.partition (SX.S a) (Str.ofString ".")).2.2]) htp
    refine ⟨tp, _, rfl, SqT.of upd_same, rfl, _, _, rfl, _, _, rfl, _, _, rfl, rfl, ?_⟩
    rw [show Str.ofString "." = SX.S [46] from rfl, pp] at *
    generalize upd H1 tp (.tup [.str (SX.S (cutA a), zz, SX.S (cutB a)).1, .str (SX.S (cutA a), zz, SX.S (cutB a)).2.1, .str (SX.S (cutA a), zz, SX.S (cutB a)).2.2]) = H2 at *
    have s12 := s1.trans s2
    have no : (widthL (cutA a) = none ∨ pointL (cutB a) = none ∨ mannerL b = none ∨ endsL c = none) → rdParts [a, b, c] = none := fun h => by
      show (match widthL (cutA a), pointL (cutB a), mannerL b, endsL c with
        | some w, some p, some m, some e => some (w, p, m, e)
        | _, _, _, _ => none) = none
      rcases h with e | e | e | e
      · rw [e]
      · rw [e]; cases widthL (cutA a) <;> rfl
      · rw [e]; cases widthL (cutA a) <;> cases pointL (cutB a) <;> rfl
      · rw [e]; cases widthL (cutA a) <;> cases pointL (cutB a) <;> cases mannerL b <;> rfl
    have go : ∀ (x : V) (H3 : Hp), Same H2 H3 → ((cutA a = freeL ∧ x = .non) ∨ (cutA a ≠ freeL ∧ ∃ n, wholeL (cutA a) = some n ∧ x = .int n)) → ∀ (σ : L2.St), σ[1]? = some (some (.ref Wd)) → σ[5]? = some (some x) → σ[4]? = some (some (sV (cutB a))) →
        (tRet (tMakeS C (spInitB K dM C CB) [] (wOnly K (.ref CB) (fun _ _ _ => tRet (tC .non)) (fun _ _ _ _ => False) { nx := fun _ H' => Q .non H', rt := Q }) (tCons (tVar 5) (tCons (tCall spWholeOf [] E0 (tCons (tVar 4) tNil)) (tCons (tOp (rIxL K) (tVar 1) (tC (.int 1))) (tCons (tOp (rIxL K) (tVar 1) (tC (.int 2))) tNil)))))) { nx := fun _ H' => Q .non H', rt := Q } σ H3 := fun x H3 s3 hx σ e1 e2 e3 => by
      refine ⟨_, e2, _, e3, _, rfl, by omega, fun H4 s4 => ?_⟩
      have s14 := s12.trans (s3.trans s4)
      have hW4 := s4 _ _ (s3 _ _ (s2 _ _ hW))
      refine ⟨_, e1, Wd, _, 1, sV b, rfl, rfl, SqL.of hW4, a1, _, e1, Wd, _, 2, sV c, rfl, rfl, SqL.of hW4, a2, fun p dx hp hd np => ?_⟩
      obtain ⟨wi, wv⟩ := width_is K (upd (upd H4 dx (.own p)) p (.ins C dx [])) hx
      obtain ⟨pi, pv⟩ := point_is K (upd (upd H4 dx (.own p)) p (.ins C dx [])) (cutB a)
      have sp : Same H4 (upd (upd H4 dx (.own p)) p (.ins C dx [])) := fun b o e => by
        rw [upd_ne (ne_of_none e hp), upd_ne (ne_of_none e hd)]
        exact e
      refine ⟨p, dx, x, _, _, _, _, _, _, _, rfl, upd_same, wi, pi, man_is NM _ b, ends_is K _ c, fun bad d hdd => ⟨true, xB, fun _ _ _ => ?_, fun z => nomatch z⟩, fun w pt m st x1 x2 x3 x4 H5 hf kp => ⟨rfl, ?_⟩⟩
      · refine q1 (no ?_) _ ((s14.trans sp).trans (same_new hdd))
        revert bad
        cases widthL (cutA a) with
        | none => exact fun _ => .inl rfl
        | some _ =>
          cases pointL (cutB a) with
          | none => exact fun _ => .inr (.inl rfl)
          | some _ =>
            cases mannerL b with
            | none => exact fun _ => .inr (.inr (.inl rfl))
            | some _ =>
              cases endsL c with
              | none => exact fun _ => .inr (.inr (.inr rfl))
              | some _ => exact fun z => by cases z
      · have hwo := hf.wo
        have e1 : widthL (cutA a) = some w := by
          rcases hx with ⟨hx, rfl⟩ | ⟨hx, n, hn, rfl⟩
          · cases w with
            | none => rw [hx]; rfl
            | some _ => cases x1
          · cases w with
            | none => cases x1
            | some k =>
              cases x1
              rw [← whole_back hn]
              exact widthL_wT (w := some n) hwo
        have e2 : pointL (cutB a) = some pt := by
          cases hn : wholeL (cutB a) with
          | none => rw [hn] at x2; cases x2
          | some k =>
            rw [hn] at x2
            cases x2
            rw [← whole_back hn]
            exact pointL_itx ⟨hf.p0, hf.p1⟩
        have e3 : mannerL b = some m := by
          rw [Mn.l_str] at x3
          have := SX.S_inj (V.str.inj x3)
          rw [this]
          exact mannerL_l m
        have e4 : endsL c = some st := by
          rw [endL_str] at x4
          have := SX.S_inj (V.str.inj x4)
          rw [this]
          exact endsL_l st
        refine q2 w pt m st ?_ p _ (s14.trans (made_same hp hd kp)) (s14.free hp) hf
        show (match widthL (cutA a), pointL (cutB a), mannerL b, endsL c with
          | some w, some p, some m, some e => some (w, p, m, e)
          | _, _, _, _ => none) = _
        rw [e1, e2, e3, e4]
    refine ⟨_, rfl, rfl, _, rfl, ?_⟩
    show if decide (V.str (SX.S (cutA a)) = V.str (SX.S freeL)) = true then _ else _
    rw [eq_S]
    by_cases cf : cutA a = freeL
    · refine iteC (d := true) (decide_eq_true cf) (iteT ?_)
      refine ⟨_, rfl, rfl, _, rfl, iteT ⟨_, rfl, rfl, _, rfl, ?_⟩⟩
      show if (!decide (V.str (SX.S (cutA a)) = V.str (SX.S freeL))) = true then _ else _
      rw [eq_S]
      refine iteC (d := false) (by rw [decide_eq_true cf]; rfl) (iteF ?_)
      exact go .non H2 (Same.refl _) (.inl ⟨cf, rfl⟩) _ rfl rfl rfl
    · refine iteC (d := false) (decide_eq_false cf) (iteF ?_)
      refine ⟨_, rfl, _, rfl, by omega, fun H3 s3 => ?_⟩
      refine ⟨_, rfl, rfl, _, rfl, ?_⟩
      cases hn : wholeL (cutA a) with
      | none =>
        refine iteT ⟨_, rfl, rfl, _, rfl, ?_⟩
        show if (!decide (V.str (SX.S (cutA a)) = V.str (SX.S freeL))) = true then _ else _
        rw [eq_S]
        refine iteC (d := true) (by rw [decide_eq_false cf]; rfl) (iteT ?_)
        refine q1 (no (.inl ?_)) _ (s12.trans s3)
        unfold widthL
        rw [if_neg cf]
        show (match wholeL (cutA a) with | some n => if 2 ≤ n ∧ n ≤ 64 then some (some n) else none | none => none) = _
        rw [hn]
      | some n =>
        refine iteF ?_
        exact go (.int n) H3 s3 (.inr ⟨cf, n, hn, rfl⟩) _ rfl rfl rfl
end
end E1

namespace E1
open PySem PySem.Spec PyProof.Rows L2
/-! ### nets: rows, holds, forms, points -/
/-- a new object, its heap named -/
theorem upd_gen {H G : Hp} {p : Addr} {o : HO} (e : upd H p o = G) (hp : H p = none) : Same H G ∧ G p = some o := by
  subst e
  exact ⟨same_new hp, upd_same⟩
inductive Row where
  | inn
  | old (k : Nat)
  | times (f : Int) (m a : Nat)
  | plus (a b : Nat)
  | less (a b : Nat)
  | move (m : Int) (a : Nat)
  | keep (f a : Nat)
inductive Kd7 where
  | inn | old | times | plus | less | move | keep
def Row.kd : Row → Kd7
  | .inn => .inn
  | .old _ => .old
  | .times _ _ _ => .times
  | .plus _ _ => .plus
  | .less _ _ => .less
  | .move _ _ => .move
  | .keep _ _ => .keep
def Kd7.s : Kd7 → Str
  | .inn => "in"
  | .old => "old"
  | .times => "times"
  | .plus => "plus"
  | .less => "less"
  | .move => "move"
  | .keep => "keep"
def Kd7.n : Kd7 → Nat
  | .inn => 1
  | .old => 2
  | .times => 4
  | .plus => 3
  | .less => 3
  | .move => 3
  | .keep => 3
def Row.vs : Row → List V
  | .inn => [.str "in"]
  | .old k => [.str "old", .int k]
  | .times f m a => [.str "times", .int f, .int m, .int a]
  | .plus a b => [.str "plus", .int a, .int b]
  | .less a b => [.str "less", .int a, .int b]
  | .move m a => [.str "move", .int m, .int a]
  | .keep f a => [.str "keep", .int f, .int a]
theorem Row.vs0 (r : Row) : r.vs[0]? = some (.str r.kd.s) := by cases r <;> rfl
theorem Row.vs_len (r : Row) : r.vs.length = r.kd.n := by cases r <;> rfl
/-- tuples that lie at the things of a list -/
inductive TsAt (H : Hp) : List V → List (List V) → Prop where
  | nil : TsAt H [] []
  | cons {p : Addr} {xs : List V} {vs : List V} {xss : List (List V)} (e : H p = some (.tup xs)) (r : TsAt H vs xss) : TsAt H (.ref p :: vs) (xs :: xss)
theorem TsAt.mono {H H' : Hp} {vs : List V} {xss : List (List V)} (h : TsAt H vs xss) (k : ∀ p xs, H p = some (.tup xs) → H' p = some (.tup xs)) : TsAt H' vs xss := by
  induction h with
  | nil => exact .nil
  | cons e _ ih => exact .cons (k _ _ e) ih
theorem TsAt.same {H H' : Hp} {vs : List V} {xss : List (List V)} (h : TsAt H vs xss) (s : Same H H') : TsAt H' vs xss := h.mono fun _ _ e => s _ _ e
theorem TsAt.len {H : Hp} {vs : List V} {xss : List (List V)} (h : TsAt H vs xss) : vs.length = xss.length := by
  induction h with
  | nil => rfl
  | cons _ _ ih => rw [List.length_cons, List.length_cons, ih]
theorem TsAt.get {H : Hp} {vs : List V} {xss : List (List V)} (h : TsAt H vs xss) : ∀ {i : Nat} {v : V}, vs[i]? = some v → ∃ p xs, v = .ref p ∧ xss[i]? = some xs ∧ H p = some (.tup xs) := by
  induction h with
  | nil => intro i v z; cases z
  | cons e _ ih =>
    intro i v z
    cases i with
    | zero =>
      cases z
      exact ⟨_, _, rfl, rfl, e⟩
    | succ i => exact ih z
theorem TsAt.at {H : Hp} {vs : List V} {xss : List (List V)} (h : TsAt H vs xss) : ∀ {i : Nat} {xs : List V}, xss[i]? = some xs → ∃ p, vs[i]? = some (.ref p) ∧ H p = some (.tup xs) := by
  induction h with
  | nil => intro i v z; cases z
  | cons e _ ih =>
    intro i v z
    cases i with
    | zero =>
      cases z
      exact ⟨_, rfl, e⟩
    | succ i => exact ih z
theorem TsAt.app {H : Hp} {vs ws : List V} {xss yss : List (List V)} (h : TsAt H vs xss) (g : TsAt H ws yss) : TsAt H (vs ++ ws) (xss ++ yss) := by
  induction h with
  | nil => exact g
  | cons e _ ih => exact .cons e ih
/-- a list of tuples in the heap -/
def TL7 (H : Hp) (a : Addr) (xss : List (List V)) : Prop := ∃ vs, H a = some (.lst vs) ∧ TsAt H vs xss
theorem TL7.same {H H' : Hp} {a : Addr} {xss : List (List V)} (h : TL7 H a xss) (s : Same H H') : TL7 H' a xss := by
  obtain ⟨vs, e, t⟩ := h
  exact ⟨vs, s _ _ e, t.same s⟩
/-- but for another list -/
theorem TsAt.but {H H' : Hp} {a : Addr} {ys : List V} {vs : List V} {xss : List (List V)} (h : TsAt H vs xss) (s : SameBut a H H') (ha : H a = some (.lst ys)) : TsAt H' vs xss := h.mono fun p xs e => s p _ (ne_of e ha (fun z => nomatch z)) e
theorem TL7.but {H H' : Hp} {a b : Addr} {ys : List V} {xss : List (List V)} (h : TL7 H a xss) (s : SameBut b H H') (hb : H b = some (.lst ys)) (n : a ≠ b) : TL7 H' a xss := by
  obtain ⟨vs, e, t⟩ := h
  exact ⟨vs, s _ _ n e, t.but s hb⟩
structure FormP where
  w : Option Int
  pt : Int
  m : Mn
  st : Bool
def FormP.vs (f : FormP) : List V := [wV f.w, .int f.pt, .str f.m.str, .str (endS f.st)]
structure FormP.Ok (f : FormP) : Prop where
  wo : WOk f.w
  p0 : -64 ≤ f.pt
  p1 : f.pt ≤ 64
abbrev FAt (C : Addr) (H : Hp) (p : Addr) (f : FormP) : Prop := FormAt C H p f.w f.pt f.m f.st
/-- forms that are the things of a list -/
inductive FsAt (C : Addr) (H : Hp) : List V → List FormP → Prop where
  | nil : FsAt C H [] []
  | cons {p : Addr} {f : FormP} {vs : List V} {fs : List FormP} (e : FAt C H p f) (r : FsAt C H vs fs) : FsAt C H (.ref p :: vs) (f :: fs)
theorem FsAt.same {C : Addr} {H H' : Hp} {vs : List V} {fs : List FormP} (h : FsAt C H vs fs) (s : Same H H') : FsAt C H' vs fs := by
  induction h with
  | nil => exact .nil
  | cons e _ ih => exact .cons (FormAt.same e s) ih
theorem FsAt.len {C : Addr} {H : Hp} {vs : List V} {fs : List FormP} (h : FsAt C H vs fs) : vs.length = fs.length := by
  induction h with
  | nil => rfl
  | cons _ _ ih => rw [List.length_cons, List.length_cons, ih]
theorem FsAt.get {C : Addr} {H : Hp} {vs : List V} {fs : List FormP} (h : FsAt C H vs fs) : ∀ {i : Nat} {v : V}, vs[i]? = some v → ∃ p f, v = .ref p ∧ fs[i]? = some f ∧ FAt C H p f := by
  induction h with
  | nil => intro i v z; cases z
  | cons e _ ih =>
    intro i v z
    cases i with
    | zero =>
      cases z
      exact ⟨_, _, rfl, rfl, e⟩
    | succ i => exact ih z
theorem FsAt.at {C : Addr} {H : Hp} {vs : List V} {fs : List FormP} (h : FsAt C H vs fs) : ∀ {i : Nat} {f : FormP}, fs[i]? = some f → ∃ p, vs[i]? = some (.ref p) ∧ FAt C H p f := by
  induction h with
  | nil => intro i v z; cases z
  | cons e _ ih =>
    intro i v z
    cases i with
    | zero =>
      cases z
      exact ⟨_, rfl, e⟩
    | succ i => exact ih z
theorem FsAt.app {C : Addr} {H : Hp} {vs ws : List V} {fs gs : List FormP} (h : FsAt C H vs fs) (g : FsAt C H ws gs) : FsAt C H (vs ++ ws) (fs ++ gs) := by
  induction h with
  | nil => exact g
  | cons e _ ih => exact .cons e ih
structure Hold where
  k : Nat
  s : Int
  l : Nat
def Hold.vs (h : Hold) : List V := [.int h.k, .int h.s, .int h.l]
structure NetP where
  fs : List FormP
  en : Nat
  rows : List Row
  holds : List Hold
  out : Nat
def fpt (fs : List FormP) (k : Nat) : Int := ((fs.map (·.pt)).getD k 0)
def hpts (n : NetP) : List Int := n.holds.map fun h => fpt n.fs h.k
/-- a row's point, from the points ahead -/
def rowPt (en : Int) (hp fp pts : List Int) : Row → Int
  | .inn => en
  | .old k => hp.getD k 0
  | .times _ m a => pts.getD a 0 + m
  | .plus a b => let x := pts.getD a 0; let y := pts.getD b 0; if y > x then y else x
  | .less a b => let x := pts.getD a 0; let y := pts.getD b 0; if y > x then y else x
  | .move m a => pts.getD a 0 - m
  | .keep f _ => fp.getD f 0
def ptsOf (en : Int) (hp fp : List Int) (rows : List Row) : List Int := rows.foldl (fun pts r => pts ++ [rowPt en hp fp pts r]) []
def NetP.pts (n : NetP) : List Int := ptsOf (fpt n.fs n.en) (hpts n) (n.fs.map (·.pt)) n.rows
theorem ptsOf_snoc (en : Int) (hp fp : List Int) (rows : List Row) (r : Row) : ptsOf en hp fp (rows ++ [r]) = ptsOf en hp fp rows ++ [rowPt en hp fp (ptsOf en hp fp rows) r] := by
  unfold ptsOf
  rw [List.foldl_append]
  rfl
theorem ptsOf_len (en : Int) (hp fp : List Int) (rows : List Row) : (ptsOf en hp fp rows).length = rows.length := by
  have key : ∀ (rows : List Row) (acc : List Int), (rows.foldl (fun pts r => pts ++ [rowPt en hp fp pts r]) acc).length = acc.length + rows.length := by
    intro rows
    induction rows with
    | nil => intro acc; rfl
    | cons r rs ih =>
      intro acc
      rw [List.foldl_cons, ih]
      simp only [List.length_append, List.length_cons, List.length_nil]
      omega
  have := key rows []
  rw [List.length_nil] at this
  unfold ptsOf
  omega
theorem ptsOf_take (en : Int) (hp fp : List Int) (rows : List Row) (i : Nat) : (ptsOf en hp fp rows).take i = ptsOf en hp fp (rows.take i) := by
  have key : ∀ (rs : List Row) (acc : List Int) (i : Nat), ((rs.foldl (fun pts r => pts ++ [rowPt en hp fp pts r]) acc)).take (acc.length + i) = (rs.take i).foldl (fun pts r => pts ++ [rowPt en hp fp pts r]) acc := by
    intro rs
    induction rs with
    | nil =>
      intro acc i
      rw [List.take_nil]
      exact List.take_of_length_le (by show acc.length ≤ _; omega)
    | cons r rs ih =>
      intro acc i
      cases i with
      | zero =>
        rw [List.take_zero, Nat.add_zero]
        have h := ih (acc ++ [rowPt en hp fp acc r]) 0
        rw [Nat.add_zero, List.take_zero] at h
        rw [List.foldl_cons]
        have h2 := congrArg (List.take acc.length) h
        rw [List.take_take, List.length_append] at h2
        rw [show min acc.length (acc.length + [rowPt en hp fp acc r].length) = acc.length by omega] at h2
        rw [h2]
        show (acc ++ [rowPt en hp fp acc r]).take acc.length = acc
        rw [List.take_append_of_le_length (Nat.le_refl _), List.take_length]
      | succ i =>
        rw [List.foldl_cons, List.take_succ_cons, List.foldl_cons]
        have h := ih (acc ++ [rowPt en hp fp acc r]) i
        rw [List.length_append, List.length_singleton] at h
        rw [← h]
        congr 1
        omega
  have := key rows [] i
  rw [List.length_nil, Nat.zero_add] at this
  exact this
/-- a row that may stand at place i -/
def RowOk (hc fc i : Nat) : Row → Prop
  | .inn => True
  | .old k => k < hc
  | .times f m a => f.natAbs < 9223372036854775808 ∧ m ≤ 64 ∧ a < i
  | .plus a b => a < i ∧ b < i
  | .less a b => a < i ∧ b < i
  | .move m a => m.natAbs ≤ 64 ∧ a < i
  | .keep f a => f < fc ∧ a < i
structure NetOk (n : NetP) : Prop where
  f1 : 1 ≤ n.fs.length
  f2 : n.fs.length ≤ 12
  fo : ∀ f ∈ n.fs, f.Ok
  en : n.en < n.fs.length
  h2 : n.holds.length ≤ 6
  ho : ∀ h ∈ n.holds, h.k < n.fs.length ∧ (∀ f, n.fs[h.k]? = some f → inR f.w h.s = true) ∧ ∃ a, n.rows[h.l]? = some (.keep h.k a)
  r1 : 1 ≤ n.rows.length
  r2 : n.rows.length ≤ 60
  ro : ∀ i r, n.rows[i]? = some r → RowOk n.holds.length n.fs.length i r
  po : ∀ p ∈ n.pts, -200 ≤ p ∧ p ≤ 200
  out : n.out < n.rows.length
/-- a net in the heap -/
def nflds (fl : Addr) (en : Int) (rl hl : Addr) (out : Int) (pl : Addr) : List (Str × V) := [("form_list", .ref fl), ("enters_at", .int en), ("row_list", .ref rl), ("hold_list", .ref hl), ("out_at", .int out), ("point_list", .ref pl)]
structure NetB (C CN : Addr) (H : Hp) (p : Addr) (n : NetP) (dx fl rl hl pl : Addr) (fv rv hv : List V) : Prop where
  ob : H p = some (.ins CN dx (nflds fl n.en rl hl n.out pl))
  fa : H fl = some (.lst fv)
  fs : FsAt C H fv n.fs
  ra : H rl = some (.lst rv)
  rs : TsAt H rv (n.rows.map Row.vs)
  ha : H hl = some (.lst hv)
  hs : TsAt H hv (n.holds.map Hold.vs)
  pa : H pl = some (.lst (n.pts.map V.int))
def NetAt (C CN : Addr) (H : Hp) (p : Addr) (n : NetP) : Prop := NetOk n ∧ ∃ dx fl rl hl pl fv rv hv, NetB C CN H p n dx fl rl hl pl fv rv hv
theorem NetB.same {C CN : Addr} {H H' : Hp} {p : Addr} {n : NetP} {dx fl rl hl pl : Addr} {fv rv hv : List V} (h : NetB C CN H p n dx fl rl hl pl fv rv hv) (s : Same H H') : NetB C CN H' p n dx fl rl hl pl fv rv hv :=
  ⟨s _ _ h.ob, s _ _ h.fa, h.fs.same s, s _ _ h.ra, h.rs.same s, s _ _ h.ha, h.hs.same s, s _ _ h.pa⟩
theorem NetAt.same {C CN : Addr} {H H' : Hp} {p : Addr} {n : NetP} (h : NetAt C CN H p n) (s : Same H H') : NetAt C CN H' p n := by
  obtain ⟨o, dx, fl, rl, hl, pl, fv, rv, hv, b⟩ := h
  exact ⟨o, dx, fl, rl, hl, pl, fv, rv, hv, b.same s⟩
theorem get_map {α : Type} {l : List α} {i : Nat} {g : α → V} {x : α} (h : l[i]? = some x) : (l.map g)[i]? = some (g x) := by rw [List.getElem?_map, h]; rfl
theorem getD_of {l : List Int} {i : Nat} (h : i < l.length) : l[i]? = some (l.getD i 0) := by
  rw [List.getD_eq_getElem?_getD, List.getElem?_eq_getElem h]
  rfl
theorem ints_at {l : List Int} {i : Nat} (h : i < l.length) : atI (l.map V.int) (i : Int) = some (.int (l.getD i 0)) := atI_nat (get_map (getD_of h))
end E1

namespace E1
open PySem PySem.Spec PyProof.Rows L2

/-- how many steps of the form a number at a point is, rounded -/
def stepsAt (pt : Int) (m : Mn) (n p : Int) : Int := if p ≤ pt then n * 2 ^ (pt - p).toNat else m.f n (2 ^ (p - pt).toNat)
def spEnded (C : Addr) : Sp := fun vs H Q _ => ∃ (p : Addr) (w : Option Int) (pt : Int) (m : Mn) (st : Bool) (n : Int), vs = [.ref p, .int n] ∧ FormAt C H p w pt m st ∧ ∀ r, H r = none → Q (.ref r) (upd H r (.tup [.int (wordF w st n), .int (n - wordF w st n)]))
def spKeptAt (C : Addr) : Sp := fun vs H Q _ => ∃ (p : Addr) (w : Option Int) (pt : Int) (m : Mn) (st : Bool) (n x : Int), vs = [.ref p, .int n, .int x] ∧ FormAt C H p w pt m st ∧ -200 ≤ x ∧ x ≤ 200 ∧ n.natAbs < 2 ^ 900000 ∧
  ∀ (r : Addr) (H' : Hp), H r = none → Same H H' → H' r = some (.tup [.int (wordF w st (stepsAt pt m n x)), .int (stepsAt pt m n x - wordF w st (stepsAt pt m n x))]) → Q (.ref r) H'
theorem ibits_lt {i : Int} {n : Nat} (h : i.natAbs < 2 ^ n) : Builtin.Int.intBits i ≤ n := by
  exact PySem.intBits_le_iff.mpr h
theorem shl_ok {i : Int} {n k : Nat} (h : i.natAbs < 2 ^ n) (l : n + k ≤ 1000000) : CShl i (k : Int) := by
  refine ⟨by omega, ?_⟩
  have := ibits_lt h
  omega
theorem one_shl (k : Nat) : (1 : Int) * 2 ^ k = 2 ^ k := Int.one_mul _
theorem two_pow_lt {k n : Nat} (h : k < n) : ((2 : Int) ^ k).natAbs < 2 ^ n := by
  rw [Int.natAbs_pow]
  exact Nat.pow_lt_pow_right (by decide) h
theorem two_pow_pos (k : Nat) : (0 : Int) < 2 ^ k := Int.pow_pos (by decide)
end E1

namespace E1
open PySem PySem.Spec PyProof.Rows L2

def GivenAt (H : Hp) (gv : Addr) (en : Int) (hp fp : List Int) : Prop := ∃ ha fa, H gv = some (.tup [.int en, .ref ha, .ref fa]) ∧ H ha = some (.lst (hp.map V.int)) ∧ H fa = some (.lst (fp.map V.int))
def spPlace : Sp := fun vs H Q _ => ∃ k n : Int, vs = [.int k, .int n] ∧ 0 ≤ k ∧ k < n ∧ Q (.bl true) H
def spFactor : Sp := fun vs H Q _ => ∃ f : Int, vs = [.int f] ∧ f.natAbs < 9223372036854775808 ∧ Q (.bl true) H
def spRule (kd : Kd7) : Sp := fun vs H Q _ => ∃ (ra pa gv : Addr) (r : Row) (en : Int) (hp fp pts : List Int), vs = [.ref ra, .ref pa, .ref gv] ∧ H ra = some (.tup r.vs) ∧ r.kd = kd ∧ H pa = some (.lst (pts.map V.int)) ∧ GivenAt H gv en hp fp ∧ RowOk hp.length fp.length pts.length r ∧ Q (.int (rowPt en hp fp pts r)) H
def spRowPt : Sp := fun vs H Q _ => ∃ (ra pa gv : Addr) (r : Row) (en : Int) (hp fp pts : List Int), vs = [.ref ra, .ref pa, .ref gv] ∧ H ra = some (.tup r.vs) ∧ H pa = some (.lst (pts.map V.int)) ∧ GivenAt H gv en hp fp ∧ RowOk hp.length fp.length pts.length r ∧ -200 ≤ rowPt en hp fp pts r ∧ rowPt en hp fp pts r ≤ 200 ∧ Q (.int (rowPt en hp fp pts r)) H
def spWritten : Sp := fun vs H Q _ => ∃ (ra : Addr) (r : Row), vs = [.ref ra] ∧ H ra = some (.tup r.vs) ∧ Q (.bl true) H
structure Lens (w : World) (K : PySem.W.Frag) (mg : Str → Option Value) (dL : Addr) (es : Array DictEntry) (n : Nat) : Prop where
  gm : mg "ROW_LENGTHS" = some (.ref dL)
  D : KDict K w dL es n
  at_ : ∀ k : Kd7, ∃ t, PySem.W.nsIn K dL k.s = some (some (.int (k.n : Int) t))
structure Ruls (P : Program) (w : World) (K : PySem.W.Frag) (mg : Str → Option Value) (base : Heap) (dP : Addr) (es : Array DictEntry) (n : Nat) : Prop where
  gm : mg "POINT_RULES" = some (.ref dP)
  D : KDict K w dP es n
  at_ : ∀ k : Kd7, ∃ (f : Addr) (fd : FuncData), PySem.W.nsIn K dP k.s = some (some (.ref f)) ∧ PySem.W.keepIn K (.ref f) = true ∧ Binds K fd ["row", "points", "given"] [] ∧ FnOk P w K mg base CX0 3 f fd ["row", "points", "given"] (spRule k)
structure NCst (mg : Str → Option Value) : Prop where
  fe : ∃ t, mg "FACTOR_END" = some (.int 9223372036854775808 t)
  gs : ∃ t, mg "GREATEST_SHIFT" = some (.int 64 t)
  gr : ∃ t, mg "GREATEST_ROW_POINT" = some (.int 200 t)
  mf : ∃ t, mg "MOST_FORMS" = some (.int 12 t)
  mr : ∃ t, mg "MOST_ROWS" = some (.int 60 t)
  mh : ∃ t, mg "MOST_HOLDS" = some (.int 6 t)
theorem lenI {l : List Int} : ((l.map V.int).length : Int) = (l.length : Int) := by rw [List.length_map]
section
variable {P : Program} {w : World} {K : PySem.W.Frag} {mg : Str → Option Value} {base : Heap}
theorem sc_is_place : FnScope ["thing", "many"] ["thing", "many"] (defScope s_is_place) := ⟨rfl, rfl, rfl, by decide +kernel, rfl, by decide +kernel, by decide +kernel⟩
theorem ok_is_place {f : Addr} {fd : FuncData} (F : Fun K "is_place" "is_place" s_is_place f fd) (c_is_whole : Cal P w K mg base 1 "is_whole" ["thing"] (spWhole K)) : FnOk P w K mg base CX0 2 f fd ["thing", "many"] spPlace := by
  refine F.ok sc_is_place (fun vs H Q E h => ?_) (fun cdv A outer s H vs Q E hr h => ?_)
  · obtain ⟨k, n, rfl, _⟩ := h
    rfl
  · obtain ⟨k, n, rfl, h0, h1, q⟩ := h
    refine ⟨_, (pss_one (ps_ret (pe_and (pe_cal c_is_whole hr (pa_cons (pv 0) pa_nil)) (pe_one (pe_chain op_le op_lt pe_int (pv 0) (pv 1)))))), ?_⟩
    refine ⟨_, rfl, _, true, rfl, .inl ⟨k, rfl, rfl⟩, _, rfl, iteT ⟨_, rfl, _, _, rfl, rfl, _, rfl, ?_⟩⟩
    rw [decide_eq_true (show (0 : Int) ≤ k from h0)]
    exact iteT ⟨_, rfl, _, _, rfl, rfl, qt h1 q⟩
theorem sc_is_factor : FnScope ["thing"] ["thing"] (defScope s_is_factor) := ⟨rfl, rfl, rfl, by decide +kernel, rfl, by decide +kernel, by decide +kernel⟩
theorem ok_is_factor {f : Addr} {fd : FuncData} (NC : NCst mg) (F : Fun K "is_factor" "is_factor" s_is_factor f fd) (z : Zs mg) (c_is_whole : Cal P w K mg base 1 "is_whole" ["thing"] (spWhole K)) : FnOk P w K mg base CX0 2 f fd ["thing"] spFactor := by
  refine F.ok sc_is_factor (fun vs H Q E h => ?_) (fun cdv A outer s H vs Q E hr h => ?_)
  · obtain ⟨k, rfl, _⟩ := h
    rfl
  · obtain ⟨k, rfl, h1, q⟩ := h
    refine ⟨_, (pss_one (ps_ret (pe_and (pe_cal c_is_whole hr (pa_cons (pv 0) pa_nil)) (pe_one (pe_cmpR op_lt (pe_callB call_abs (by rfl) z.abs (by decide +kernel) (pa_cons (pv 0) pa_nil)) (pe_glob (v := .int 9223372036854775808) (by rfl) NC.fe.choose_spec ⟨_, rfl⟩) (nomark _)))))), ?_⟩
    refine ⟨_, rfl, _, true, rfl, .inl ⟨k, rfl, rfl⟩, _, rfl, iteT ⟨_, rfl, _, rfl, _, _, rfl, rfl, qt (show (if k < 0 then -k else k) < 9223372036854775808 by split <;> omega) q⟩⟩
theorem sc_in_point : FnScope ["row", "points", "given"] ["row", "points", "given"] (defScope s_in_point) := ⟨rfl, rfl, rfl, by decide +kernel, rfl, by decide +kernel, by decide +kernel⟩
theorem ok_in_point {f : Addr} {fd : FuncData} (F : Fun K "in_point" "in_point" s_in_point f fd) : FnOk P w K mg base CX0 3 f fd ["row", "points", "given"] (spRule .inn) := by
  refine F.ok sc_in_point (fun vs H Q E h => ?_) (fun cdv A outer s H vs Q E hr h => ?_)
  · obtain ⟨ra, pa, gv, r, en, hp, fp, pts, rfl, _⟩ := h
    rfl
  · obtain ⟨ra, pa, gv, r, en, hp, fp, pts, rfl, hra, hk, hpa, ⟨ha, fa, hgv, hha, hfa⟩, hok, q⟩ := h
    refine ⟨_, (pss_one (ps_ret (pe_ix ix_tup (pv 2) pe_int (fun _ _ => rfl)))), ?_⟩
    match r, hk, hok, hra, q with
    | .inn, _, _, hra, q => exact ⟨_, rfl, gv, _, 0, .int en, rfl, rfl, SqT.of hgv, a0, q⟩
theorem sc_old_point : FnScope ["row", "points", "given", "hold_points"] ["row", "points", "given"] (defScope s_old_point) := ⟨rfl, rfl, rfl, by decide +kernel, rfl, by decide +kernel, by decide +kernel⟩
theorem ok_old_point {f : Addr} {fd : FuncData} (z : Zs mg) (c_is_place : Cal P w K mg base 2 "is_place" ["thing", "many"] spPlace) (F : Fun K "old_point" "old_point" s_old_point f fd) : FnOk P w K mg base CX0 3 f fd ["row", "points", "given"] (spRule .old) := by
  refine F.ok sc_old_point (fun vs H Q E h => ?_) (fun cdv A outer s H vs Q E hr h => ?_)
  · obtain ⟨ra, pa, gv, r, en, hp, fp, pts, rfl, _⟩ := h
    rfl
  · obtain ⟨ra, pa, gv, r, en, hp, fp, pts, rfl, hra, hk, hpa, ⟨ha, fa, hgv, hha, hfa⟩, hok, q⟩ := h
    refine ⟨_, (pss_cons (ps_set (i := 3) sc_old_point.nd rfl (.inl rfl) (pe_ix ix_tup (pv 2) pe_int (fun _ _ => rfl)))
      (pss_one (ps_ret (pe_ifExp (pt_val (pe_cal c_is_place hr (pa_cons (pe_ix ix_tup (pv 0) pe_int (fun _ _ => rfl)) (pa_cons (pe_callB call_len_seq (by rfl) z.len PySem.boot_len (pa_cons (pv 3) pa_nil)) pa_nil)))) (pe_ix ix_list (pv 3) (pe_ix ix_tup (pv 0) pe_int (fun _ _ => rfl)) (fun _ _ => rfl)) pe_non)))), ?_⟩
    match r, hk, hok, hra, q with
    | .old k, _, hok, hra, q =>
      have hk : k < hp.length := hok
      refine ⟨_, rfl, gv, _, 1, .ref ha, rfl, rfl, SqT.of hgv, a1, _, rfl, ra, _, 1, .int k, rfl, rfl, SqT.of hra, a1, _, rfl, ha, _, rfl, .inl (SqL.of hha), _, _, rfl, by omega, by rw [lenI]; omega, _, rfl, iteT ?_⟩
      exact ⟨_, rfl, _, rfl, ra, _, 1, .int k, rfl, rfl, SqT.of hra, a1, ha, _, _, _, rfl, rfl, SqL.of hha, ints_at hk, q⟩
theorem sc_times_point : FnScope ["row", "points", "given", "word", "factor", "more", "at"] ["row", "points", "given"] (defScope s_times_point) := ⟨rfl, rfl, rfl, by decide +kernel, rfl, by decide +kernel, by decide +kernel⟩
theorem ok_times_point {f : Addr} {fd : FuncData} (NC : NCst mg) (z : Zs mg) (c_is_factor : Cal P w K mg base 2 "is_factor" ["thing"] spFactor) (c_is_place : Cal P w K mg base 2 "is_place" ["thing", "many"] spPlace) (F : Fun K "times_point" "times_point" s_times_point f fd) : FnOk P w K mg base CX0 3 f fd ["row", "points", "given"] (spRule .times) := by
  refine F.ok sc_times_point (fun vs H Q E h => ?_) (fun cdv A outer s H vs Q E hr h => ?_)
  · obtain ⟨ra, pa, gv, r, en, hp, fp, pts, rfl, _⟩ := h
    rfl
  · obtain ⟨ra, pa, gv, r, en, hp, fp, pts, rfl, hra, hk, hpa, ⟨ha, fa, hgv, hha, hfa⟩, hok, q⟩ := h
    refine ⟨_, (pss_cons (ps_asg (pv 0) (pg_tup (by rfl) (pgs_cons (pg_name (i := 3) sc_times_point.nd rfl (.inl rfl)) (pgs_cons (pg_name (i := 4) sc_times_point.nd rfl (.inl rfl)) (pgs_cons (pg_name (i := 5) sc_times_point.nd rfl (.inl rfl)) (pgs_cons (pg_name (i := 6) sc_times_point.nd rfl (.inl rfl)) pgs_nil))))))
      (pss_cons (ps_if (PW.pt (pw_or (pt_not (pt_val (pe_cal c_is_factor hr (pa_cons (pv 4) pa_nil)))) (pw_or (pt_not (pt_val (pe_cal c_is_place hr (pa_cons (pv 5) (pa_cons (pe_op op_add (pe_glob (v := .int 64) (by rfl) NC.gs.choose_spec ⟨_, rfl⟩) pe_int) pa_nil))))) (pw_or1 (pt_not (pt_val (pe_cal c_is_place hr (pa_cons (pv 6) (pa_cons (pe_callB call_len_seq (by rfl) z.len PySem.boot_len (pa_cons (pv 1) pa_nil)) pa_nil))))))))) (pss_one (ps_ret pe_non)) pss_nil)
      (pss_one (ps_ret (pe_op op_add (pe_ix ix_list (pv 1) (pv 6) (fun _ _ => rfl)) (pv 5)))))), ?_⟩
    match r, hk, hok, hra, q with
    | .times f m a, _, hok, hra, q =>
      obtain ⟨h1, h2, h3⟩ := hok
      refine ⟨_, rfl, ra, _, rfl, SqT.of hra, rfl, _, _, rfl, _, _, rfl, _, _, rfl, _, _, rfl, rfl, _, rfl, f, rfl, h1, _, rfl, iteF ⟨_, rfl, _, _, rfl, rfl, _, _, rfl, by omega, by omega, _, rfl, iteF ⟨_, rfl, _, rfl, pa, _, rfl, .inl (SqL.of hpa), _, _, rfl, by omega, by rw [lenI]; omega, _, rfl, iteF ?_⟩⟩⟩
      exact ⟨_, rfl, _, rfl, pa, _, _, _, rfl, rfl, SqL.of hpa, ints_at h3, _, rfl, _, _, rfl, rfl, q⟩
theorem sc_sum_point : FnScope ["row", "points", "given", "word", "one", "other"] ["row", "points", "given"] (defScope s_sum_point) := ⟨rfl, rfl, rfl, by decide +kernel, rfl, by decide +kernel, by decide +kernel⟩
theorem ok_sum_point_plus {f : Addr} {fd : FuncData} (z : Zs mg) (c_is_place : Cal P w K mg base 2 "is_place" ["thing", "many"] spPlace) (F : Fun K "sum_point" "sum_point" s_sum_point f fd) : FnOk P w K mg base CX0 3 f fd ["row", "points", "given"] (spRule .plus) := by
  refine F.ok sc_sum_point (fun vs H Q E h => ?_) (fun cdv A outer s H vs Q E hr h => ?_)
  · obtain ⟨ra, pa, gv, r, en, hp, fp, pts, rfl, _⟩ := h
    rfl
  · obtain ⟨ra, pa, gv, r, en, hp, fp, pts, rfl, hra, hk, hpa, ⟨ha, fa, hgv, hha, hfa⟩, hok, q⟩ := h
    refine ⟨_, (pss_cons (ps_asg (pv 0) (pg_tup (by rfl) (pgs_cons (pg_name (i := 3) sc_sum_point.nd rfl (.inl rfl)) (pgs_cons (pg_name (i := 4) sc_sum_point.nd rfl (.inl rfl)) (pgs_cons (pg_name (i := 5) sc_sum_point.nd rfl (.inl rfl)) pgs_nil)))))
      (pss_cons (ps_if (PW.pt (pw_or (pt_not (pt_val (pe_cal c_is_place hr (pa_cons (pv 4) (pa_cons (pe_callB call_len_seq (by rfl) z.len PySem.boot_len (pa_cons (pv 1) pa_nil)) pa_nil))))) (pw_or1 (pt_not (pt_val (pe_cal c_is_place hr (pa_cons (pv 5) (pa_cons (pe_callB call_len_seq (by rfl) z.len PySem.boot_len (pa_cons (pv 1) pa_nil)) pa_nil)))))))) (pss_one (ps_ret pe_non)) pss_nil)
      (pss_one (ps_ret (pe_callB (call_max2 rfl) (by rfl) z.max (by decide +kernel) (pa_cons (pe_ix ix_list (pv 1) (pv 4) (fun _ _ => rfl)) (pa_cons (pe_ix ix_list (pv 1) (pv 5) (fun _ _ => rfl)) pa_nil))))))), ?_⟩
    match r, hk, hok, hra, q with
    | .plus a b, _, hok, hra, q =>
      obtain ⟨h1, h2⟩ := hok
      refine ⟨_, rfl, ra, _, rfl, SqT.of hra, rfl, _, _, rfl, _, _, rfl, _, _, rfl, rfl, _, rfl, _, rfl, pa, _, rfl, .inl (SqL.of hpa), _, _, rfl, by omega, by rw [lenI]; omega, _, rfl, iteF ⟨_, rfl, _, rfl, pa, _, rfl, .inl (SqL.of hpa), _, _, rfl, by omega, by rw [lenI]; omega, _, rfl, iteF ?_⟩⟩
      exact ⟨_, rfl, _, rfl, pa, _, _, _, rfl, rfl, SqL.of hpa, ints_at h1, _, rfl, _, rfl, pa, _, _, _, rfl, rfl, SqL.of hpa, ints_at h2, _, _, rfl, q⟩
theorem ok_sum_point_less {f : Addr} {fd : FuncData} (z : Zs mg) (c_is_place : Cal P w K mg base 2 "is_place" ["thing", "many"] spPlace) (F : Fun K "sum_point" "sum_point" s_sum_point f fd) : FnOk P w K mg base CX0 3 f fd ["row", "points", "given"] (spRule .less) := by
  refine F.ok sc_sum_point (fun vs H Q E h => ?_) (fun cdv A outer s H vs Q E hr h => ?_)
  · obtain ⟨ra, pa, gv, r, en, hp, fp, pts, rfl, _⟩ := h
    rfl
  · obtain ⟨ra, pa, gv, r, en, hp, fp, pts, rfl, hra, hk, hpa, ⟨ha, fa, hgv, hha, hfa⟩, hok, q⟩ := h
    refine ⟨_, (pss_cons (ps_asg (pv 0) (pg_tup (by rfl) (pgs_cons (pg_name (i := 3) sc_sum_point.nd rfl (.inl rfl)) (pgs_cons (pg_name (i := 4) sc_sum_point.nd rfl (.inl rfl)) (pgs_cons (pg_name (i := 5) sc_sum_point.nd rfl (.inl rfl)) pgs_nil)))))
      (pss_cons (ps_if (PW.pt (pw_or (pt_not (pt_val (pe_cal c_is_place hr (pa_cons (pv 4) (pa_cons (pe_callB call_len_seq (by rfl) z.len PySem.boot_len (pa_cons (pv 1) pa_nil)) pa_nil))))) (pw_or1 (pt_not (pt_val (pe_cal c_is_place hr (pa_cons (pv 5) (pa_cons (pe_callB call_len_seq (by rfl) z.len PySem.boot_len (pa_cons (pv 1) pa_nil)) pa_nil)))))))) (pss_one (ps_ret pe_non)) pss_nil)
      (pss_one (ps_ret (pe_callB (call_max2 rfl) (by rfl) z.max (by decide +kernel) (pa_cons (pe_ix ix_list (pv 1) (pv 4) (fun _ _ => rfl)) (pa_cons (pe_ix ix_list (pv 1) (pv 5) (fun _ _ => rfl)) pa_nil))))))), ?_⟩
    match r, hk, hok, hra, q with
    | .less a b, _, hok, hra, q =>
      obtain ⟨h1, h2⟩ := hok
      refine ⟨_, rfl, ra, _, rfl, SqT.of hra, rfl, _, _, rfl, _, _, rfl, _, _, rfl, rfl, _, rfl, _, rfl, pa, _, rfl, .inl (SqL.of hpa), _, _, rfl, by omega, by rw [lenI]; omega, _, rfl, iteF ⟨_, rfl, _, rfl, pa, _, rfl, .inl (SqL.of hpa), _, _, rfl, by omega, by rw [lenI]; omega, _, rfl, iteF ?_⟩⟩
      exact ⟨_, rfl, _, rfl, pa, _, _, _, rfl, rfl, SqL.of hpa, ints_at h1, _, rfl, _, rfl, pa, _, _, _, rfl, rfl, SqL.of hpa, ints_at h2, _, _, rfl, q⟩
theorem sc_move_point : FnScope ["row", "points", "given", "word", "many", "at"] ["row", "points", "given"] (defScope s_move_point) := ⟨rfl, rfl, rfl, by decide +kernel, rfl, by decide +kernel, by decide +kernel⟩
theorem ok_move_point {f : Addr} {fd : FuncData} (NC : NCst mg) (z : Zs mg) (c_is_whole : Cal P w K mg base 1 "is_whole" ["thing"] (spWhole K)) (c_is_place : Cal P w K mg base 2 "is_place" ["thing", "many"] spPlace) (F : Fun K "move_point" "move_point" s_move_point f fd) : FnOk P w K mg base CX0 3 f fd ["row", "points", "given"] (spRule .move) := by
  refine F.ok sc_move_point (fun vs H Q E h => ?_) (fun cdv A outer s H vs Q E hr h => ?_)
  · obtain ⟨ra, pa, gv, r, en, hp, fp, pts, rfl, _⟩ := h
    rfl
  · obtain ⟨ra, pa, gv, r, en, hp, fp, pts, rfl, hra, hk, hpa, ⟨ha, fa, hgv, hha, hfa⟩, hok, q⟩ := h
    refine ⟨_, (pss_cons (ps_asg (pv 0) (pg_tup (by rfl) (pgs_cons (pg_name (i := 3) sc_move_point.nd rfl (.inl rfl)) (pgs_cons (pg_name (i := 4) sc_move_point.nd rfl (.inl rfl)) (pgs_cons (pg_name (i := 5) sc_move_point.nd rfl (.inl rfl)) pgs_nil)))))
      (pss_cons (ps_if (PW.pt (pw_or (pt_not (pt_val (pe_cal c_is_whole hr (pa_cons (pv 4) pa_nil)))) (pw_or (pt_cmpR op_gt (pe_callB call_abs (by rfl) z.abs (by decide +kernel) (pa_cons (pv 4) pa_nil)) (pe_glob (v := .int 64) (by rfl) NC.gs.choose_spec ⟨_, rfl⟩) (nomark _)) (pw_or1 (pt_not (pt_val (pe_cal c_is_place hr (pa_cons (pv 5) (pa_cons (pe_callB call_len_seq (by rfl) z.len PySem.boot_len (pa_cons (pv 1) pa_nil)) pa_nil))))))))) (pss_one (ps_ret pe_non)) pss_nil)
      (pss_one (ps_ret (pe_op op_sub (pe_ix ix_list (pv 1) (pv 5) (fun _ _ => rfl)) (pv 4)))))), ?_⟩
    match r, hk, hok, hra, q with
    | .move m a, _, hok, hra, q =>
      obtain ⟨h1, h2⟩ := hok
      refine ⟨_, rfl, ra, _, rfl, SqT.of hra, rfl, _, _, rfl, _, _, rfl, _, _, rfl, rfl, _, rfl, _, true, rfl, .inl ⟨m, rfl, rfl⟩, _, rfl, iteF ⟨_, rfl, _, rfl, _, _, rfl, rfl, _, rfl, iteC (d := false) (decide_eq_false (by split <;> omega)) (iteF ⟨_, rfl, _, rfl, pa, _, rfl, .inl (SqL.of hpa), _, _, rfl, by omega, by rw [lenI]; omega, _, rfl, iteF ?_⟩)⟩⟩
      exact ⟨_, rfl, _, rfl, pa, _, _, _, rfl, rfl, SqL.of hpa, ints_at h2, _, rfl, _, _, rfl, rfl, q⟩
theorem sc_keep_point : FnScope ["row", "points", "given", "word", "form", "at", "form_points"] ["row", "points", "given"] (defScope s_keep_point) := ⟨rfl, rfl, rfl, by decide +kernel, rfl, by decide +kernel, by decide +kernel⟩
theorem ok_keep_point {f : Addr} {fd : FuncData} (z : Zs mg) (c_is_place : Cal P w K mg base 2 "is_place" ["thing", "many"] spPlace) (F : Fun K "keep_point" "keep_point" s_keep_point f fd) : FnOk P w K mg base CX0 3 f fd ["row", "points", "given"] (spRule .keep) := by
  refine F.ok sc_keep_point (fun vs H Q E h => ?_) (fun cdv A outer s H vs Q E hr h => ?_)
  · obtain ⟨ra, pa, gv, r, en, hp, fp, pts, rfl, _⟩ := h
    rfl
  · obtain ⟨ra, pa, gv, r, en, hp, fp, pts, rfl, hra, hk, hpa, ⟨ha, fa, hgv, hha, hfa⟩, hok, q⟩ := h
    refine ⟨_, (pss_cons (ps_asg (pv 0) (pg_tup (by rfl) (pgs_cons (pg_name (i := 3) sc_keep_point.nd rfl (.inl rfl)) (pgs_cons (pg_name (i := 4) sc_keep_point.nd rfl (.inl rfl)) (pgs_cons (pg_name (i := 5) sc_keep_point.nd rfl (.inl rfl)) pgs_nil)))))
      (pss_cons (ps_set (i := 6) sc_keep_point.nd rfl (.inl rfl) (pe_ix ix_tup (pv 2) pe_int (fun _ _ => rfl)))
      (pss_cons (ps_if (PW.pt (pw_or (pt_not (pt_val (pe_cal c_is_place hr (pa_cons (pv 4) (pa_cons (pe_callB call_len_seq (by rfl) z.len PySem.boot_len (pa_cons (pv 6) pa_nil)) pa_nil))))) (pw_or1 (pt_not (pt_val (pe_cal c_is_place hr (pa_cons (pv 5) (pa_cons (pe_callB call_len_seq (by rfl) z.len PySem.boot_len (pa_cons (pv 1) pa_nil)) pa_nil)))))))) (pss_one (ps_ret pe_non)) pss_nil)
      (pss_one (ps_ret (pe_ix ix_list (pv 6) (pv 4) (fun _ _ => rfl))))))), ?_⟩
    match r, hk, hok, hra, q with
    | .keep f a, _, hok, hra, q =>
      obtain ⟨h1, h2⟩ := hok
      refine ⟨_, rfl, ra, _, rfl, SqT.of hra, rfl, _, _, rfl, _, _, rfl, _, _, rfl, rfl, _, rfl, gv, _, 2, .ref fa, rfl, rfl, SqT.of hgv, a2, _, rfl, _, rfl, fa, _, rfl, .inl (SqL.of hfa), _, _, rfl, by omega, by rw [lenI]; omega, _, rfl, iteF ⟨_, rfl, _, rfl, pa, _, rfl, .inl (SqL.of hpa), _, _, rfl, by omega, by rw [lenI]; omega, _, rfl, iteF ?_⟩⟩
      exact ⟨_, rfl, _, rfl, fa, _, _, _, rfl, rfl, SqL.of hfa, ints_at h1, q⟩
theorem sc_is_written_as_row : FnScope ["thing"] ["thing"] (defScope s_is_written_as_row) := ⟨rfl, rfl, rfl, by decide +kernel, rfl, by decide +kernel, by decide +kernel⟩
theorem ok_is_written_as_row {f : Addr} {fd : FuncData} {k : Nat} {dL : Addr} {eL : Array DictEntry} {nL : Nat} (LE : Lens w K mg dL eL nL) (F : Fun K "is_written_as_row" "is_written_as_row" s_is_written_as_row f fd) (z : Zs mg) : FnOk P w K mg base CX0 (k + 1) f fd ["thing"] spWritten := by
  refine F.ok sc_is_written_as_row (fun vs H Q E h => ?_) (fun cdv A outer s H vs Q E hr h => ?_)
  · obtain ⟨ra, r, rfl, _⟩ := h
    rfl
  · obtain ⟨ra, r, rfl, hra, q⟩ := h
    refine ⟨_, (pss_cons (ps_if (PW.pt (pw_or (pt_not (pt_val (pe_callB call_isi (by rfl) z.isinstance (by decide +kernel) (pa_cons (pv 0) (pa_cons (pe_bltn (v := .ty "tuple") (by rfl) z.tuple (by decide +kernel) rfl) pa_nil))))) (pw_or (pt_not (pt_truth (pv 0) (by intro _; rfl))) (pw_or1 (pt_not (pt_val (pe_callB call_isi (by rfl) z.isinstance (by decide +kernel) (pa_cons (pe_ix ix_tup (pv 0) pe_int (fun _ _ => rfl)) (pa_cons (pe_bltn (v := .ty "str") (by rfl) z.str (by decide +kernel) rfl) pa_nil))))))))) (pss_one (ps_ret pe_bl)) pss_nil)
      (pss_one (ps_ret (pe_and (pe_cmpR (op_in_kd LE.D) (pe_ix ix_tup (pv 0) pe_int (fun _ _ => rfl)) (pe_glob (v := .ref dL) (by rfl) LE.gm rfl) (by rfl)) (pe_one (pe_cmpR op_eq (pe_callB call_len_seq (by rfl) z.len PySem.boot_len (pa_cons (pv 0) pa_nil)) (pe_ix ix_kdict (pe_glob (v := .ref dL) (by rfl) LE.gm rfl) (pe_ix ix_tup (pv 0) pe_int (fun _ _ => rfl)) (fun _ _ => rfl)) (nomark _))))))), ?_⟩
    obtain ⟨t, hL⟩ := LE.at_ r.kd
    have l0 : (!r.vs.isEmpty) = true := by cases r <;> rfl
    refine ⟨_, rfl, _, .ty "tuple", _, _, true, rfl, .ty _, .base (.tup hra), kit_ty (by decide +kernel), _, rfl, iteF ⟨_, rfl, true, .inr (.inl ⟨_, SqT.of hra, l0.symm⟩), iteF ⟨_, rfl, ra, _, 0, .str r.kd.s, rfl, rfl, SqT.of hra, atI_nat (j := 0) r.vs0, _, .ty "str", _, _, true, rfl, .ty _, .base (.str _), kit_ty (by decide +kernel), _, rfl, iteF ?_⟩⟩⟩
    refine ⟨_, rfl, ra, _, 0, .str r.kd.s, rfl, rfl, SqT.of hra, atI_nat (j := 0) r.vs0, _, _, rfl, rfl, hL, _, rfl, iteT ⟨_, rfl, ra, _, rfl, .inr (SqT.of hra), _, rfl, ra, _, 0, .str r.kd.s, rfl, rfl, SqT.of hra, atI_nat (j := 0) r.vs0, dL, r.kd.s, .int (r.kd.n : Int), rfl, rfl, ⟨eL, nL, _, LE.D.at_, LE.D.lit, hL, ⟨_, rfl⟩⟩, rfl, ?_⟩⟩
    rw [r.vs_len, decide_eq_true rfl]
    exact q
theorem sc_row_point : FnScope ["row", "points", "given", "rule", "point"] ["row", "points", "given"] (defScope s_row_point) := ⟨rfl, rfl, rfl, by decide +kernel, rfl, by decide +kernel, by decide +kernel⟩
theorem ok_row_point {f : Addr} {fd : FuncData} {dP : Addr} {eP : Array DictEntry} {nP : Nat} (RU : Ruls P w K mg base dP eP nP) (NC : NCst mg) (F : Fun K "row_point" "row_point" s_row_point f fd) (z : Zs mg) (c_is_written_as_row : Cal P w K mg base 1 "is_written_as_row" ["thing"] spWritten) : FnOk P w K mg base CX0 4 f fd ["row", "points", "given"] spRowPt := by
  refine F.ok sc_row_point (fun vs H Q E h => ?_) (fun cdv A outer s H vs Q E hr h => ?_)
  · obtain ⟨ra, pa, gv, r, en, hp, fp, pts, rfl, _⟩ := h
    rfl
  · obtain ⟨ra, pa, gv, r, en, hp, fp, pts, rfl, hra, hpa, hg, hok, p0, p1, q⟩ := h
    obtain ⟨fR, fdR, h1, hK, hB, hF⟩ := RU.at_ r.kd
    refine ⟨_, (pss_cons (ps_if (pt_not (pt_val (pe_cal c_is_written_as_row hr (pa_cons (pv 0) pa_nil)))) (pss_one (ps_ret pe_non)) pss_nil)
      (pss_cons (ps_set (i := 3) sc_row_point.nd rfl (.inl rfl) (pe_ix ix_kdict (pe_glob (v := .ref dP) (by rfl) RU.gm rfl) (pe_ix ix_tup (pv 0) pe_int (fun _ _ => rfl)) (fun _ _ => rfl)))
      (pss_cons (ps_set (i := 4) sc_row_point.nd rfl (.inl rfl) (pe_callL (i := 3) hF hr rfl (Or.inl rfl) hK hB .nil pass0 (pa_cons (pv 0) (pa_cons (pv 1) (pa_cons (pv 2) pa_nil)))))
      (pss_one (ps_ret (pe_ifExp (PW.pt (pw_and (pt_cmpR op_notN (pv 4) pe_non (nomark _)) (pw_and1 (pt_cmpR op_le (pe_callB call_abs (by rfl) z.abs (by decide +kernel) (pa_cons (pv 4) pa_nil)) (pe_glob (v := .int 200) (by rfl) NC.gr.choose_spec ⟨_, rfl⟩) (nomark _))))) (pv 4) pe_non)))))), ?_⟩
    refine ⟨_, rfl, ra, r, rfl, hra, _, rfl, iteF ?_⟩
    refine ⟨_, rfl, ra, _, 0, .str r.kd.s, rfl, rfl, SqT.of hra, atI_nat (j := 0) r.vs0, dP, r.kd.s, .ref fR, rfl, rfl, ⟨eP, nP, _, RU.D.at_, RU.D.lit, h1, rfl⟩, ?_⟩
    refine ⟨rfl, _, rfl, _, rfl, _, rfl, ra, pa, gv, r, en, hp, fp, pts, rfl, hra, rfl, hpa, hg, hok, ?_⟩
    refine ⟨_, rfl, rfl, _, rfl, iteT ⟨_, rfl, _, rfl, _, _, rfl, rfl, _, rfl, iteC (d := true) (decide_eq_true (by split <;> omega)) (iteT ⟨_, rfl, q⟩)⟩⟩
end
end E1

namespace E1
open PySem PySem.Spec PyProof.Rows L2

/-- what the written part says of the class of forms -/
structure IsC (K : PySem.W.Frag) (mg : Str → Option Value) (C : Addr) : Prop where
  gC : mg "Form" = some (.ref C)
  ha : PySem.W.findIn K (.ref C) "__class__" = some (some (.builtin "object.__class__"))
  hn : PySem.W.specialIn K (.builtin "object.__class__") "__get__" = some (some (.builtin "getset_descriptor.__get__"))
  ht : PySem.W.takesIn K (.builtin "object.__class__") = some true
  hm : PySem.W.mroIn K C (.type "object") = some true
  kC : PySem.W.kitOne K (.ref C) (.ref C) = some true
def spLen4 : Sp := fun vs H Q _ => ∃ (a : Addr) (xs : List V) (z : Str) (lo hi : Int), vs = [.ref a, .str z, .int lo, .int hi] ∧ H a = some (.lst xs) ∧ lo ≤ xs.length ∧ (xs.length : Int) ≤ hi ∧ Q .non H
def spCkForms (C : Addr) : Sp := fun vs H Q _ => ∃ (a : Addr) (fv : List V) (fs : List FormP), vs = [.ref a] ∧ H a = some (.lst fv) ∧ FsAt C H fv fs ∧ 1 ≤ fs.length ∧ fs.length ≤ 12 ∧ ∀ H', Same H H' → Q .non H'
def spIsHold (C : Addr) : Sp := fun vs H Q _ => ∃ (ta a : Addr) (fv : List V) (fs : List FormP) (h : Hold) (f : FormP), vs = [.ref ta, .ref a] ∧ H ta = some (.tup h.vs) ∧ H a = some (.lst fv) ∧ FsAt C H fv fs ∧ fs[h.k]? = some f ∧ inR f.w h.s = true ∧ Q (.bl true) H
def spCkHolds (C : Addr) : Sp := fun vs H Q _ => ∃ (b a : Addr) (hv fv : List V) (fs : List FormP) (hs : List Hold), vs = [.ref b, .ref a] ∧ H b = some (.lst hv) ∧ TsAt H hv (hs.map Hold.vs) ∧ H a = some (.lst fv) ∧ FsAt C H fv fs ∧ hs.length ≤ 6 ∧ (∀ h ∈ hs, h.k < fs.length ∧ ∀ f, fs[h.k]? = some f → inR f.w h.s = true) ∧ ∀ H', Same H H' → Q .non H'
def spCkPts : Sp := fun vs H Q _ => ∃ (ra gv : Addr) (rv : List V) (rows : List Row) (en : Int) (hp fp : List Int), vs = [.ref ra, .ref gv] ∧ H ra = some (.lst rv) ∧ TsAt H rv (rows.map Row.vs) ∧ GivenAt H gv en hp fp ∧ 1 ≤ rows.length ∧ rows.length ≤ 60 ∧ (∀ i r, rows[i]? = some r → RowOk hp.length fp.length i r) ∧ (∀ p ∈ ptsOf en hp fp rows, -200 ≤ p ∧ p ≤ 200) ∧
  ∀ p H', Same H H' → H p = none → H' p = some (.lst ((ptsOf en hp fp rows).map V.int)) → Q (.ref p) H'
def spCkLinks : Sp := fun vs H Q _ => ∃ (b ra : Addr) (hv rv : List V) (hs : List Hold) (rows : List Row), vs = [.ref b, .ref ra] ∧ H b = some (.lst hv) ∧ TsAt H hv (hs.map Hold.vs) ∧ H ra = some (.lst rv) ∧ TsAt H rv (rows.map Row.vs) ∧ (∀ h ∈ hs, ∃ a, rows[h.l]? = some (.keep h.k a)) ∧ ∀ H', Same H H' → Q .non H'
/-- a new net: its lists were not there -/
def NetNew (H : Hp) (C CN : Addr) (H' : Hp) (p : Addr) (n : NetP) : Prop := NetOk n ∧ ∃ dx fl rl hl pl fv rv hv, NetB C CN H' p n dx fl rl hl pl fv rv hv ∧ H fl = none ∧ H rl = none ∧ H hl = none ∧ H pl = none
theorem NetNew.at {H : Hp} {C CN : Addr} {H' : Hp} {p : Addr} {n : NetP} (h : NetNew H C CN H' p n) : NetAt C CN H' p n := by
  obtain ⟨ok, dx, fl, rl, hl, pl, fv, rv, hv, b, _⟩ := h
  exact ⟨ok, dx, fl, rl, hl, pl, fv, rv, hv, b⟩
theorem none_but {p q : Addr} {H G : Hp} (B : SameBut p H G) (n : q ≠ p) (e : G q = none) : H q = none := by
  cases h : H q with
  | none => rfl
  | some o =>
    rw [B _ _ n h] at e
    cases e
def spNetInit (C CN : Addr) : Sp := fun vs H Q _ => ∃ (p dx fl rl hl : Addr) (n : NetP) (fv rv hv : List V), vs = [.ref p, .ref fl, .int n.en, .ref rl, .ref hl, .int n.out] ∧ H p = some (.ins CN dx []) ∧ H fl = some (.lst fv) ∧ FsAt C H fv n.fs ∧ H rl = some (.lst rv) ∧ TsAt H rv (n.rows.map Row.vs) ∧ H hl = some (.lst hv) ∧ TsAt H hv (n.holds.map Hold.vs) ∧ NetOk n ∧
  ∀ H', NetNew H C CN H' p n → (∀ b o, b ≠ p → H b = some o → H' b = some o) → Q .non H'
theorem GivenAt.same {H H' : Hp} {gv : Addr} {en : Int} {hp fp : List Int} (h : GivenAt H gv en hp fp) (s : Same H H') : GivenAt H' gv en hp fp := by
  obtain ⟨ha, fa, a, b, c⟩ := h
  exact ⟨ha, fa, s _ _ a, s _ _ b, s _ _ c⟩
theorem ptsOf_next {en : Int} {hp fp : List Int} {rows : List Row} {i : Nat} {r : Row} (h : rows[i]? = some r) : ptsOf en hp fp (rows.take (i + 1)) = ptsOf en hp fp (rows.take i) ++ [rowPt en hp fp (ptsOf en hp fp (rows.take i)) r] := by
  rw [List.take_add_one, h, Option.toList_some, ptsOf_snoc]
theorem ptsOf_in {en : Int} {hp fp : List Int} {rows : List Row} {i : Nat} {r : Row} (h : rows[i]? = some r) : rowPt en hp fp (ptsOf en hp fp (rows.take i)) r ∈ ptsOf en hp fp rows := by
  have e := ptsOf_take en hp fp rows (i + 1)
  rw [ptsOf_next h] at e
  have : rowPt en hp fp (ptsOf en hp fp (rows.take i)) r ∈ (ptsOf en hp fp rows).take (i + 1) := by
    rw [e]
    exact List.mem_append.mpr (.inr (List.mem_singleton.mpr rfl))
  exact List.mem_of_mem_take this
theorem putF_app {k : Str} {v : V} : ∀ {l : List (Str × V)}, ((l.map (·.1)).all fun x => decide (x ≠ k)) = true → putF k v l = l ++ [(k, v)]
  | [], _ => rfl
  | (g, x) :: r, h => by
    rw [List.map_cons, List.all_cons, Bool.and_eq_true, decide_eq_true_eq] at h
    show (if g = k then (g, v) :: r else (g, x) :: putF k v r) = _
    rw [if_neg h.1, putF_app h.2]
    rfl
theorem kp_lay (k : Int) : PyData.canLay0 (.tuple [.str "keep", .int k]) = true := by
  simp only [PyData.canLay0, PyData.canLayAll0, Bool.and_true]
  decide +kernel
theorem kp_shaped (k : Int) : SeqAt.shaped (.tuple [.str "keep", .int k]) = true := by
  show (PyData.canLay0 (.tuple [.str "keep", .int k]) && decide (PyData.depth (.tuple [.str "keep", .int k]) ≤ 64)) = true
  rw [kp_lay, Bool.true_and]
  simp only [PyData.depth, PyData.depthAll]
  rfl
def fks : List Str := ["form_list", "enters_at", "row_list", "hold_list", "out_at", "point_list"]
theorem fks_new : ∀ i : Fin 6, ((fks.take i.val).all fun x => decide (x ≠ fks[i.val]'i.isLt)) = true := by decide +kernel
theorem nf0 {a : V} : putF "form_list" a [] = [(("form_list" : Str), a)] := rfl
theorem nf1 {a b : V} : putF "enters_at" b [(("form_list" : Str), a)] = [(("form_list" : Str), a), ("enters_at", b)] := putF_app (fks_new 1)
theorem nf2 {a b c : V} : putF "row_list" c [(("form_list" : Str), a), ("enters_at", b)] = [(("form_list" : Str), a), ("enters_at", b), ("row_list", c)] := putF_app (fks_new 2)
theorem nf3 {a b c d : V} : putF "hold_list" d [(("form_list" : Str), a), ("enters_at", b), ("row_list", c)] = [(("form_list" : Str), a), ("enters_at", b), ("row_list", c), ("hold_list", d)] := putF_app (fks_new 3)
theorem nf4 {a b c d e : V} : putF "out_at" e [(("form_list" : Str), a), ("enters_at", b), ("row_list", c), ("hold_list", d)] = [(("form_list" : Str), a), ("enters_at", b), ("row_list", c), ("hold_list", d), ("out_at", e)] := putF_app (fks_new 4)
theorem nf5 {a b c d e f : V} : putF "point_list" f [(("form_list" : Str), a), ("enters_at", b), ("row_list", c), ("hold_list", d), ("out_at", e)] = [(("form_list" : Str), a), ("enters_at", b), ("row_list", c), ("hold_list", d), ("out_at", e), ("point_list", f)] := putF_app (fks_new 5)
section
variable {P : Program} {w : World} {K : PySem.W.Frag} {mg : Str → Option Value} {base : Heap}
theorem sc_check_length : FnScope ["thing", "part", "least", "most"] ["thing", "part", "least", "most"] (defScope s_check_length) := ⟨rfl, rfl, rfl, by decide +kernel, rfl, by decide +kernel, by decide +kernel⟩
theorem ok_check_length {f : Addr} {fd : FuncData} {k : Nat} (F : Fun K "check_length" "check_length" s_check_length f fd) (z : Zs mg) : FnOk P w K mg base CX0 (k + 1) f fd ["thing", "part", "least", "most"] spLen4 := by
  refine F.ok sc_check_length (fun vs H Q E h => ?_) (fun cdv A outer s H vs Q E hr h => ?_)
  · obtain ⟨a, xs, zz, lo, hi, rfl, _⟩ := h
    rfl
  · obtain ⟨a, xs, zz, lo, hi, rfl, ha, l0, l1, q⟩ := h
    refine ⟨_, (pss_one (ps_if (PW.pt (pw_or (pt_not (pt_val (pe_callB call_isi (by rfl) z.isinstance (by decide +kernel) (pa_cons (pv 0) (pa_cons (pe_bltn (v := .ty "list") (by rfl) z.list (by decide +kernel) rfl) pa_nil))))) (pw_or1 (pt_not (pt_chain op_le op_le (pv 2) (pe_callB call_len_seq (by rfl) z.len PySem.boot_len (pa_cons (pv 0) pa_nil)) (pv 3)))))) (pss_one ps_never) pss_nil)), ?_⟩
    refine ⟨_, rfl, _, .ty "list", _, _, true, rfl, .ty _, .base (.lst ha), kit_ty (by decide +kernel), _, rfl, iteF ⟨_, rfl, _, rfl, a, _, rfl, .inl (SqL.of ha), _, _, rfl, rfl, _, rfl, ?_⟩⟩
    refine iteC (d := true) (decide_eq_true l0) (iteT ⟨_, rfl, _, _, rfl, rfl, _, rfl, ?_⟩)
    exact iteC (d := false) (by rw [decide_eq_true (show (xs.length : Int) ≤ hi from l1)]; rfl) (iteF q)
theorem sc_check_forms : FnScope ["forms", "at", "form"] ["forms"] (defScope s_check_forms) := ⟨rfl, rfl, rfl, by decide +kernel, rfl, by decide +kernel, by decide +kernel⟩
theorem ok_check_forms {f : Addr} {fd : FuncData} {C : Addr} (T : FTxt K mg C) (IC : IsC K mg C) (NC : NCst mg) (F : Fun K "check_forms" "check_forms" s_check_forms f fd) (z : Zs mg) (c_check_length : Cal P w K mg base 1 "check_length" ["thing", "part", "least", "most"] spLen4) : FnOk P w K mg base CX0 2 f fd ["forms"] (spCkForms C) := by
  refine F.ok sc_check_forms (fun vs H Q E h => ?_) (fun cdv A outer s H vs Q E hr h => ?_)
  · obtain ⟨a, fv, fs, rfl, _⟩ := h
    rfl
  · obtain ⟨a, fv, fs, rfl, ha, hf, l0, l1, q⟩ := h
    refine ⟨_, (pss_cons (ps_expr (pe_cal c_check_length hr (pa_cons (pv 0) (pa_cons pe_str (pa_cons pe_int (pa_cons (pe_glob (v := .int 12) (by rfl) NC.mf.choose_spec ⟨_, rfl⟩) pa_nil))))))
      (pss_one (ps_for PassesOwn.never rfl (pi_enum (by rfl) z.enumerate (pa_cons (pv 0) pa_nil)) (pg_tup (by rfl) (pgs_cons (pg_name (i := 1) sc_check_forms.nd rfl (.inl rfl)) (pgs_cons (pg_name (i := 2) sc_check_forms.nd rfl (.inl rfl)) pgs_nil))) (pss_one (ps_if (pt_not (pt_val (pe_callB call_isi (by rfl) z.isinstance (by decide +kernel) (pa_cons (pv 2) (pa_cons (pe_glob (v := .ref C) (by rfl) IC.gC rfl) pa_nil))))) (pss_one ps_never) pss_nil))))), ?_⟩
    have ll := hf.len
    refine ⟨_, rfl, a, fv, _, _, _, rfl, ha, by omega, by omega, ?_⟩
    refine ⟨_, rfl, a, _, rfl, SqL.of ha, for_it (walk_enum (K := K) (a := a) (xs := fv)) (fun i σ H' => ∃ y3 y4 : Option V, σ = [some (.ref a), y3, y4] ∧ Same H H') ⟨none, none, rfl, Same.refl _⟩ (fun i σ H' _ hP => ?_) (fun i v σ H1 H2 hi hP hY => ?_) (fun σ H' hP => ?_)⟩
    · obtain ⟨y3, y4, rfl, s1⟩ := hP
      exact SqL.of (s1 _ _ ha)
    · obtain ⟨y3, y4, rfl, s1⟩ := hP
      obtain ⟨Tp, u, v', rfl, nT, rfl, e1, e2⟩ := hY
      cases e1
      obtain ⟨p, f, rfl, _, hp⟩ := hf.get e2
      have s2 := s1.trans (same_new (o := .tup [.int (i : Nat), .ref p]) nT)
      obtain ⟨dx, ho⟩ := (FormAt.same hp s2).ob
      refine ⟨Tp, _, rfl, SqT.of upd_same, rfl, _, _, rfl, _, _, rfl, rfl, ?_⟩
      exact ⟨_, rfl, _, .ref C, .ref C, .ref C, true, rfl, .own C, .base (.ins ho T.cl IC.ha IC.hn IC.ht IC.hm), IC.kC, _, rfl, iteF ⟨_, _, rfl, s2⟩⟩
    · obtain ⟨y3, y4, rfl, s1⟩ := hP
      exact q _ s1
theorem sc_is_hold : FnScope ["thing", "forms"] ["thing", "forms"] (defScope s_is_hold) := ⟨rfl, rfl, rfl, by decide +kernel, rfl, by decide +kernel, by decide +kernel⟩
theorem ok_is_hold {f : Addr} {fd : FuncData} {C : Addr} (T : FTxt K mg C) (F : Fun K "is_hold" "is_hold" s_is_hold f fd) (z : Zs mg) (c_is_place : Cal P w K mg base 2 "is_place" ["thing", "many"] spPlace) (m_has : CalM P w K mg base 2 C "has" ["self", "thing"] (spHas K C)) : FnOk P w K mg base CX0 3 f fd ["thing", "forms"] (spIsHold C) := by
  refine F.ok sc_is_hold (fun vs H Q E h => ?_) (fun cdv A outer s H vs Q E hr h => ?_)
  · obtain ⟨ta, a, fv, fs, h, f, rfl, _⟩ := h
    rfl
  · obtain ⟨ta, a, fv, fs, h, f, rfl, hta, ha, hf, hk, hin, q⟩ := h
    refine ⟨_, (pss_cons (ps_if (PW.pt (pw_or (pt_not (pt_val (pe_callB call_isi (by rfl) z.isinstance (by decide +kernel) (pa_cons (pv 0) (pa_cons (pe_bltn (v := .ty "tuple") (by rfl) z.tuple (by decide +kernel) rfl) pa_nil))))) (pw_or1 (pt_cmpR op_ne (pe_callB call_len_seq (by rfl) z.len PySem.boot_len (pa_cons (pv 0) pa_nil)) pe_int (nomark _))))) (pss_one (ps_ret pe_bl)) pss_nil)
      (pss_one (ps_ret (pe_and (pe_cal c_is_place hr (pa_cons (pe_ix ix_tup (pv 0) pe_int (fun _ _ => rfl)) (pa_cons (pe_callB call_len_seq (by rfl) z.len PySem.boot_len (pa_cons (pv 1) pa_nil)) pa_nil))) (pe_one (pe_calm (pe_ix ix_list (pv 1) (pe_ix ix_tup (pv 0) pe_int (fun _ _ => rfl)) (fun _ _ => rfl)) T.cl m_has hr (pa_cons (pe_ix ix_tup (pv 0) pe_int (fun _ _ => rfl)) pa_nil))))))), ?_⟩
    have ll := hf.len
    have kl : h.k < fs.length := (List.getElem?_eq_some_iff.mp hk).1
    obtain ⟨p, ep, fp⟩ := hf.at hk
    obtain ⟨dx, ho⟩ := fp.ob
    refine ⟨_, rfl, _, .ty "tuple", _, _, true, rfl, .ty _, .base (.tup hta), kit_ty (by decide +kernel), _, rfl, iteF ⟨_, rfl, ta, _, rfl, .inr (SqT.of hta), rfl, _, rfl, iteF ?_⟩⟩
    refine ⟨_, rfl, ta, _, 0, .int h.k, rfl, rfl, SqT.of hta, a0, _, rfl, a, _, rfl, .inl (SqL.of ha), _, _, rfl, by omega, by omega, _, rfl, iteT ?_⟩
    refine ⟨_, rfl, _, rfl, ta, _, 0, .int h.k, rfl, rfl, SqT.of hta, a0, a, _, _, .ref p, rfl, rfl, SqL.of ha, atI_nat ep, p, dx, _, rfl, ho, fl_no (by decide +kernel), _, rfl, ta, _, 1, .int h.s, rfl, rfl, SqT.of hta, a1, p, f.w, f.pt, f.m, f.st, .int h.s, _, rfl, fp, .inl ⟨_, rfl, rfl⟩, ?_⟩
    rw [hin]
    exact q
theorem sc_check_holds : FnScope ["holds", "forms", "at", "hold"] ["holds", "forms"] (defScope s_check_holds) := ⟨rfl, rfl, rfl, by decide +kernel, rfl, by decide +kernel, by decide +kernel⟩
theorem ok_check_holds {f : Addr} {fd : FuncData} {C : Addr} (NC : NCst mg) (F : Fun K "check_holds" "check_holds" s_check_holds f fd) (z : Zs mg) (c_check_length : Cal P w K mg base 1 "check_length" ["thing", "part", "least", "most"] spLen4) (c_is_hold : Cal P w K mg base 3 "is_hold" ["thing", "forms"] (spIsHold C)) : FnOk P w K mg base CX0 4 f fd ["holds", "forms"] (spCkHolds C) := by
  refine F.ok sc_check_holds (fun vs H Q E h => ?_) (fun cdv A outer s H vs Q E hr h => ?_)
  · obtain ⟨b, a, hv, fv, fs, hs, rfl, _⟩ := h
    rfl
  · obtain ⟨b, a, hv, fv, fs, hs, rfl, hb, ht, ha, hf, l1, ho, q⟩ := h
    refine ⟨_, (pss_cons (ps_expr (pe_cal c_check_length hr (pa_cons (pv 0) (pa_cons pe_str (pa_cons pe_int (pa_cons (pe_glob (v := .int 6) (by rfl) NC.mh.choose_spec ⟨_, rfl⟩) pa_nil))))))
      (pss_one (ps_for PassesOwn.never rfl (pi_enum (by rfl) z.enumerate (pa_cons (pv 0) pa_nil)) (pg_tup (by rfl) (pgs_cons (pg_name (i := 2) sc_check_holds.nd rfl (.inl rfl)) (pgs_cons (pg_name (i := 3) sc_check_holds.nd rfl (.inl rfl)) pgs_nil))) (pss_one (ps_if (pt_not (pt_val (pe_cal c_is_hold hr (pa_cons (pv 3) (pa_cons (pv 1) pa_nil))))) (pss_one ps_never) pss_nil))))), ?_⟩
    have ll := ht.len
    rw [List.length_map] at ll
    refine ⟨_, rfl, b, hv, _, _, _, rfl, hb, by omega, by omega, ?_⟩
    refine ⟨_, rfl, b, _, rfl, SqL.of hb, for_it (walk_enum (K := K) (a := b) (xs := hv)) (fun i σ H' => ∃ y3 y4 : Option V, σ = [some (.ref b), some (.ref a), y3, y4] ∧ Same H H') ⟨none, none, rfl, Same.refl _⟩ (fun i σ H' _ hP => ?_) (fun i v σ H1 H2 hi hP hY => ?_) (fun σ H' hP => ?_)⟩
    · obtain ⟨y3, y4, rfl, s1⟩ := hP
      exact SqL.of (s1 _ _ hb)
    · obtain ⟨y3, y4, rfl, s1⟩ := hP
      obtain ⟨Tp, u, v', rfl, nT, rfl, e1, e2⟩ := hY
      cases e1
      obtain ⟨p, xs, rfl, ex, hp⟩ := ht.get e2
      rw [List.getElem?_map] at ex
      obtain ⟨hh, eh, rfl⟩ := Option.map_eq_some_iff.mp ex
      obtain ⟨o1, o2⟩ := ho hh (List.mem_of_getElem? eh)
      have s2 := s1.trans (same_new (o := .tup [.int (i : Nat), .ref p]) nT)
      refine ⟨Tp, _, rfl, SqT.of upd_same, rfl, _, _, rfl, _, _, rfl, rfl, ?_⟩
      refine ⟨_, rfl, _, rfl, p, a, fv, fs, hh, fs[hh.k], rfl, s2 _ _ hp, s2 _ _ ha, hf.same s2, List.getElem?_eq_getElem o1, o2 _ (List.getElem?_eq_getElem o1), _, rfl, iteF ⟨_, _, rfl, s2⟩⟩
    · obtain ⟨y3, y4, rfl, s1⟩ := hP
      exact q _ s1
theorem sc_checked_points : FnScope ["rows", "given", "points", "at", "row", "point"] ["rows", "given"] (defScope s_checked_points) := ⟨rfl, rfl, rfl, by decide +kernel, rfl, by decide +kernel, by decide +kernel⟩
theorem ok_checked_points {f : Addr} {fd : FuncData} (NC : NCst mg) (F : Fun K "checked_points" "checked_points" s_checked_points f fd) (z : Zs mg) (c_check_length : Cal P w K mg base 1 "check_length" ["thing", "part", "least", "most"] spLen4) (c_row_point : Cal P w K mg base 4 "row_point" ["row", "points", "given"] spRowPt) : FnOk P w K mg base CX0 5 f fd ["rows", "given"] spCkPts := by
  refine F.ok sc_checked_points (fun vs H Q E h => ?_) (fun cdv A outer s H vs Q E hr h => ?_)
  · obtain ⟨ra, gv, rv, rows, en, hp, fp, rfl, _⟩ := h
    rfl
  · obtain ⟨ra, gv, rv, rows, en, hp, fp, rfl, hra, hrs, hg, l0, l1, ro, po, q⟩ := h
    refine ⟨_, (pss_cons (ps_expr (pe_cal c_check_length hr (pa_cons (pv 0) (pa_cons pe_str (pa_cons pe_int (pa_cons (pe_glob (v := .int 60) (by rfl) NC.mr.choose_spec ⟨_, rfl⟩) pa_nil))))))
      (pss_cons (ps_set (i := 2) sc_checked_points.nd rfl (.inl rfl) (pe_lst pa_nil))
      (pss_cons (ps_for PassesOwn.never rfl (pi_enum (by rfl) z.enumerate (pa_cons (pv 0) pa_nil)) (pg_tup (by rfl) (pgs_cons (pg_name (i := 3) sc_checked_points.nd rfl (.inl rfl)) (pgs_cons (pg_name (i := 4) sc_checked_points.nd rfl (.inl rfl)) pgs_nil))) (pss_cons (ps_set (i := 5) sc_checked_points.nd rfl (.inl rfl) (pe_cal c_row_point hr (pa_cons (pv 4) (pa_cons (pv 2) (pa_cons (pv 1) pa_nil)))))
      (pss_cons (ps_if (pt_cmpR op_isN (pv 5) pe_non (nomark _)) (pss_one ps_never) pss_nil)
      (pss_one (ps_expr (pe_bm PySem.F.plainAttrs_list PySem.F.slot_list_append PySem.F.type_list_append mt_append (pv 2) (pa_cons (pv 5) pa_nil)))))))
      (pss_one (ps_ret (pv 2)))))), ?_⟩
    have ll := hrs.len
    rw [List.length_map] at ll
    refine ⟨_, rfl, ra, rv, _, _, _, rfl, hra, by omega, by omega, ?_⟩
    refine ⟨(by show 0 ≤ sizeLine; decide), fun pl hpl => ?_⟩
    generalize hG : upd _ pl _ = G0
    obtain ⟨s0, h_pl⟩ := upd_gen hG hpl
    refine ⟨_, rfl, ra, _, rfl, SqL.of (s0 _ _ hra), for_it (walk_enum (K := K) (a := ra) (xs := rv)) (fun i σ H' => ∃ y3 y4 y5 : Option V, σ = [some (.ref ra), some (.ref gv), some (.ref pl), y3, y4, y5] ∧ Same H H' ∧ H' pl = some (.lst ((ptsOf en hp fp (rows.take i)).map V.int))) ⟨none, none, none, rfl, s0, h_pl⟩ (fun i σ H' _ hP => ?_) (fun i v σ H1 H2 hi hP hY => ?_) (fun σ H' hP => ?_)⟩
    · obtain ⟨y3, y4, y5, rfl, s1, _⟩ := hP
      exact SqL.of (s1 _ _ hra)
    · obtain ⟨y3, y4, y5, rfl, s1, hl⟩ := hP
      obtain ⟨Tp, u, v', rfl, nT, rfl, e1, e2⟩ := hY
      cases e1
      obtain ⟨p, xs, rfl, ex, hp'⟩ := hrs.get e2
      rw [List.getElem?_map] at ex
      obtain ⟨r, er, rfl⟩ := Option.map_eq_some_iff.mp ex
      have sn := same_new (o := .tup [.int (i : Nat), .ref p]) nT
      have s2 := s1.trans sn
      have hl2 := sn _ _ hl
      have li : (ptsOf en hp fp (rows.take i)).length = i := by
        rw [ptsOf_len, List.length_take]
        have := (List.getElem?_eq_some_iff.mp er).1
        omega
      obtain ⟨b0, b1⟩ := po _ (ptsOf_in er)
      refine ⟨Tp, _, rfl, SqT.of upd_same, rfl, _, _, rfl, _, _, rfl, rfl, ?_⟩
      refine ⟨_, rfl, _, rfl, _, rfl, p, pl, gv, r, en, hp, fp, _, rfl, s2 _ _ hp', hl2, hg.same s2, by rw [li]; exact ro i r er, b0, b1, ?_⟩
      refine ⟨_, rfl, rfl, _, rfl, iteF ⟨_, rfl, .inl ⟨rfl, _, SqL.of hl2⟩, _, rfl, pl, _, _, rfl, rfl, hl2, ?_, ?_⟩⟩
      · rw [List.length_map, li]
        exact sl_lt (by omega)
      · refine ⟨_, _, _, rfl, fun b o e => ?_, ?_⟩
        · rw [upd_ne (ne_of_none e hpl)]
          exact s2 _ _ e
        · rw [upd_same, ptsOf_next er, List.map_append]
          rfl
    · obtain ⟨y3, y4, y5, rfl, s1, hl⟩ := hP
      rw [ll, List.take_length] at hl
      exact ⟨_, rfl, q pl _ s1 hpl hl⟩
theorem sc_check_links : FnScope ["holds", "rows", "at", "hold"] ["holds", "rows"] (defScope s_check_links) := ⟨rfl, rfl, rfl, by decide +kernel, rfl, by decide +kernel, by decide +kernel⟩
theorem ok_check_links {f : Addr} {fd : FuncData} (F : Fun K "check_links" "check_links" s_check_links f fd) (z : Zs mg) (c_is_place : Cal P w K mg base 2 "is_place" ["thing", "many"] spPlace) : FnOk P w K mg base CX0 3 f fd ["holds", "rows"] spCkLinks := by
  refine F.ok sc_check_links (fun vs H Q E h => ?_) (fun cdv A outer s H vs Q E hr h => ?_)
  · obtain ⟨b, ra, hv, rv, hs, rows, rfl, _⟩ := h
    rfl
  · obtain ⟨b, ra, hv, rv, hs, rows, rfl, hb, ht, hra, hrs, ho, q⟩ := h
    refine ⟨_, (pss_one (ps_for PassesOwn.never rfl (pi_enum (by rfl) z.enumerate (pa_cons (pv 0) pa_nil)) (pg_tup (by rfl) (pgs_cons (pg_name (i := 2) sc_check_links.nd rfl (.inl rfl)) (pgs_cons (pg_name (i := 3) sc_check_links.nd rfl (.inl rfl)) pgs_nil))) (pss_one (ps_if (PW.pt (pw_or (pt_not (pt_val (pe_cal c_is_place hr (pa_cons (pe_ix ix_tup (pv 3) pe_int (fun _ _ => rfl)) (pa_cons (pe_callB call_len_seq (by rfl) z.len PySem.boot_len (pa_cons (pv 1) pa_nil)) pa_nil))))) (pw_or1 (pt_cmpR (op_neD hr.units) (pe_slice sl_tup (pe_ix ix_list (pv 1) (pe_ix ix_tup (pv 3) pe_int (fun _ _ => rfl)) (fun _ _ => rfl)) po_none (po_some pe_int)) (pe_tup (pa_cons pe_str (pa_cons (pe_ix ix_tup (pv 3) pe_int (fun _ _ => rfl)) pa_nil))) (nomark _))))) (pss_one ps_never) pss_nil)))), ?_⟩
    have ll := hrs.len
    rw [List.length_map] at ll
    refine ⟨_, rfl, b, _, rfl, SqL.of hb, for_it (walk_enum (K := K) (a := b) (xs := hv)) (fun i σ H' => ∃ y3 y4 : Option V, σ = [some (.ref b), some (.ref ra), y3, y4] ∧ Same H H') ⟨none, none, rfl, Same.refl _⟩ (fun i σ H' _ hP => ?_) (fun i v σ H1 H2 hi hP hY => ?_) (fun σ H' hP => ?_)⟩
    · obtain ⟨y3, y4, rfl, s1⟩ := hP
      exact SqL.of (s1 _ _ hb)
    · obtain ⟨y3, y4, rfl, s1⟩ := hP
      obtain ⟨Tp, u, v', rfl, nT, rfl, e1, e2⟩ := hY
      cases e1
      obtain ⟨p, xs, rfl, ex, hp⟩ := ht.get e2
      rw [List.getElem?_map] at ex
      obtain ⟨hh, eh, rfl⟩ := Option.map_eq_some_iff.mp ex
      obtain ⟨a, ea⟩ := ho hh (List.mem_of_getElem? eh)
      have s2 := s1.trans (same_new (o := .tup [.int (i : Nat), .ref p]) nT)
      have al := (List.getElem?_eq_some_iff.mp ea).1
      obtain ⟨rp, erp, hrp⟩ := hrs.at (i := hh.l) (xs := (Row.keep hh.k a).vs) (by rw [List.getElem?_map, ea]; rfl)
      have hp2 := s2 _ _ hp
      refine ⟨Tp, _, rfl, SqT.of upd_same, rfl, _, _, rfl, _, _, rfl, rfl, ?_⟩
      refine ⟨_, rfl, p, _, 2, .int hh.l, rfl, rfl, SqT.of hp2, a2, _, rfl, ra, _, rfl, .inl (SqL.of (s2 _ _ hra)), _, _, rfl, by omega, by omega, _, rfl, iteF ?_⟩
      refine ⟨_, rfl, _, rfl, p, _, 2, .int hh.l, rfl, rfl, SqT.of hp2, a2, ra, _, _, .ref rp, rfl, rfl, SqL.of (s2 _ _ hra), atI_nat erp, _, rfl, rp, _, rfl, SqT.of (s2 _ _ hrp), (by show ¬ (HT.sIx 3 0 none = 0 ∧ HT.sIx 3 3 (some 2) = 3); decide), fun c1 hc1 => ?_⟩
      generalize hG : upd _ c1 _ = G1
      obtain ⟨s3, h_c1⟩ := upd_gen hG hc1
      refine ⟨_, rfl, p, _, 0, .int hh.k, rfl, rfl, SqT.of (s3 _ _ hp2), a0, (by show 2 ≤ sizeLine; decide), fun c2 hc2 => ?_⟩
      generalize hG2 : upd _ c2 _ = G2
      obtain ⟨s4, h_c2⟩ := upd_gen hG2 hc2
      refine ⟨.tuple [.str "keep", .int hh.k], .tuple [.str "keep", .int hh.k], .tup (SqT.of (s4 _ _ h_c1)) (.cons (.str _) (.cons (.int _) .nil)), .tup (SqT.of h_c2) (.cons (.str _) (.cons (.int _) .nil)), kp_shaped _, kp_shaped _, _, rfl, ?_⟩
      refine iteC (d := false) (by rw [SeqAt.eqv_refl _ (kp_lay _)]; rfl) (iteF ⟨_, _, rfl, (s2.trans s3).trans s4⟩)
    · obtain ⟨y3, y4, rfl, s1⟩ := hP
      exact q _ s1
end
end E1

namespace E1
open PySem PySem.Spec PyProof.Rows L2

theorem upd_but {H G : Hp} {p : Addr} {o : HO} (e : upd H p o = G) : SameBut p H G ∧ G p = some o := by
  subst e
  exact ⟨SameBut.upd, upd_same⟩
theorem FsAt.butI {C CN p dx : Addr} {H H' : Hp} {vs : List V} {fs : List FormP} (h : FsAt C H vs fs) (s : SameBut p H H') (hp : H p = some (.ins CN dx [])) : FsAt C H' vs fs := by
  induction h with
  | nil => exact .nil
  | cons e _ ih =>
    obtain ⟨d, ho⟩ := e.ob
    exact .cons ⟨⟨d, s _ _ (fun z => by rw [z, hp] at ho; cases ho) ho⟩, e.wo, e.p0, e.p1⟩ ih
structure NTxt (K : PySem.W.Frag) (mg : Str → Option Value) (CN : Addr) : Prop where
  cl : Cls K CN
  n_form_list : NoAttr K CN "form_list"
  n_enters_at : NoAttr K CN "enters_at"
  n_row_list : NoAttr K CN "row_list"
  n_hold_list : NoAttr K CN "hold_list"
  n_out_at : NoAttr K CN "out_at"
  n_point_list : NoAttr K CN "point_list"
section
variable {P : Program} {w : World} {K : PySem.W.Frag} {mg : Str → Option Value} {base : Heap}
theorem sc_Net___init__ : FnScope ["self", "forms", "enters", "rows", "holds", "out", "form_points", "hold_points", "points", "form", "hold"] ["self", "forms", "enters", "rows", "holds", "out"] (defScope s_Net___init__) := ⟨rfl, rfl, rfl, by decide +kernel, rfl, by decide +kernel, by decide +kernel⟩
theorem ok_Net___init__ {f : Addr} {fd : FuncData} {C CN : Addr} (T : FTxt K mg C) (TN : NTxt K mg CN) (F : Fun K "__init__" "Net.__init__" s_Net___init__ f fd) (z : Zs mg) (c_check_forms : Cal P w K mg base 2 "check_forms" ["forms"] (spCkForms C)) (c_is_place : Cal P w K mg base 2 "is_place" ["thing", "many"] spPlace) (c_check_holds : Cal P w K mg base 4 "check_holds" ["holds", "forms"] (spCkHolds C)) (c_checked_points : Cal P w K mg base 5 "checked_points" ["rows", "given"] spCkPts) (c_check_links : Cal P w K mg base 3 "check_links" ["holds", "rows"] spCkLinks) : FnOk P w K mg base CX0 6 f fd ["self", "forms", "enters", "rows", "holds", "out"] (spNetInit C CN) := by
  refine F.ok sc_Net___init__ (fun vs H Q E h => ?_) (fun cdv A outer s H vs Q E hr h => ?_)
  · obtain ⟨p, dx, fl, rl, hl, n, fv, rv, hv, rfl, _⟩ := h
    rfl
  · obtain ⟨p, dx, fl, rl, hl, n, fv, rv, hv, rfl, hp, hf, hfs, hra, hrs, hha, hhs, ok, q⟩ := h
    refine ⟨_, (pss_cons (ps_expr (pe_cal c_check_forms hr (pa_cons (pv 1) pa_nil)))
      (pss_cons (ps_if (pt_not (pt_val (pe_cal c_is_place hr (pa_cons (pv 2) (pa_cons (pe_callB call_len_seq (by rfl) z.len PySem.boot_len (pa_cons (pv 1) pa_nil)) pa_nil))))) (pss_one ps_never) pss_nil)
      (pss_cons (ps_expr (pe_cal c_check_holds hr (pa_cons (pv 4) (pa_cons (pv 1) pa_nil))))
      (pss_cons (ps_set (i := 6) sc_Net___init__.nd rfl (.inr rfl) (pe_lc (own := [("form", 9)]) (g := gName 9) (tt := tYes) (te := tFld K (tVar 9) "point") (by rfl) sc_Net___init__.nd (pi_list (pv 1)) (blkOk_by (own := [("form", 9)]) (N := ["self", "forms", "enters", "rows", "holds", "out", "form_points", "hold_points", "points", "form", "hold"]) (sc := defScope s_Net___init__) (by decide +kernel)) (fun _ _ _ _ _ => by exact (pg_name (i := 9) sc_Net___init__.nd rfl (.inl rfl))) (fun _ _ _ _ _ => by exact pts_nil) (fun _ _ _ _ _ => by exact (pe_fld (pv 9) rfl))))
      (pss_cons (ps_setLc (i := 7) (own := [("hold", 10)]) (g := gName 10) (tt := tYes) (te := (tOp (rIxL K) (tVar 6) (tOp (rIxT K) (tVar 10) (tC (.int 0))))) (by rfl) sc_Net___init__.nd rfl rfl (sw_true rfl rfl rfl (by decide +kernel)) (pi_list (pv 4)) (blkOk_by (own := [("hold", 10)]) (N := ["self", "forms", "enters", "rows", "holds", "out", "form_points", "hold_points", "points", "form", "hold"]) (sc := defScope s_Net___init__) (by decide +kernel)) (fun _ _ _ _ _ => by exact (pg_name (i := 10) sc_Net___init__.nd rfl (.inl rfl))) (fun _ _ _ _ _ => by exact pts_nil) (fun _ _ _ _ _ => by exact (pe_ix ix_list (pv 6) (pe_ix ix_tup (pv 10) pe_int (fun _ _ => rfl)) (fun _ _ => rfl))))
      (pss_cons (ps_set (i := 8) sc_Net___init__.nd rfl (.inl rfl) (pe_cal c_checked_points hr (pa_cons (pv 3) (pa_cons (pe_tup (pa_cons (pe_ix ix_list (pv 6) (pv 2) (fun _ _ => rfl)) (pa_cons (pv 7) (pa_cons (pv 6) pa_nil)))) pa_nil))))
      (pss_cons (ps_expr (pe_cal c_check_links hr (pa_cons (pv 4) (pa_cons (pv 3) pa_nil))))
      (pss_cons (ps_if (pt_not (pt_val (pe_cal c_is_place hr (pa_cons (pv 5) (pa_cons (pe_callB call_len_seq (by rfl) z.len PySem.boot_len (pa_cons (pv 3) pa_nil)) pa_nil))))) (pss_one ps_never) pss_nil)
      (pss_cons (ps_fld (pv 0) (pe_callTy call_list_of (by rfl) z.list (by decide +kernel) (pa_cons (pv 1) pa_nil)) rfl)
      (pss_cons (ps_fld (pv 0) (pv 2) rfl)
      (pss_cons (ps_fld (pv 0) (pe_callTy call_list_of (by rfl) z.list (by decide +kernel) (pa_cons (pv 3) pa_nil)) rfl)
      (pss_cons (ps_fld (pv 0) (pe_callTy call_list_of (by rfl) z.list (by decide +kernel) (pa_cons (pv 4) pa_nil)) rfl)
      (pss_cons (ps_fld (pv 0) (pv 5) rfl)
      (pss_one (ps_fld (pv 0) (pv 8) rfl))))))))))))))), ?_⟩
    have lf := hfs.len
    have lr := hrs.len
    have lh := hhs.len
    rw [List.length_map] at lr lh
    have en0 := ok.en
    have out0 := ok.out
    refine ⟨_, rfl, fl, fv, n.fs, rfl, hf, hfs, ok.f1, ok.f2, fun H1 s1 => ?_⟩
    refine ⟨_, rfl, _, rfl, fl, _, rfl, .inl (SqL.of (s1 _ _ hf)), _, _, rfl, by omega, by omega, _, rfl, iteF ?_⟩
    refine ⟨_, rfl, _, rfl, hl, fl, hv, fv, n.fs, n.holds, rfl, s1 _ _ hha, hhs.same s1, s1 _ _ hf, hfs.same s1, ok.h2, fun h hm => ⟨(ok.ho h hm).1, (ok.ho h hm).2.1⟩, fun H2 s2 => ?_⟩
    have S2 := s1.trans s2
    refine ⟨_, rfl, fl, rfl, ⟨_, SqL.of (S2 _ _ hf)⟩, fun Da hD => ?_⟩
    refine lc_it (walk_list (K := K) (a := fl) (xs := fv)) (fun i H4 => Same H2 H4 ∧ H4 Da = some (.lst (((n.fs.take i).map (·.pt)).map V.int))) ⟨same_new hD, upd_same⟩ (fun i H4 hi hP => SqL.of (hP.1 _ _ (S2 _ _ hf))) (fun i x' H4 H5 hi hP hy => ?_) (fun H3 hP => ?_)
    · obtain ⟨s4, hD4⟩ := hP
      obtain ⟨rfl, hx⟩ := hy
      obtain ⟨fa, fm, rfl, efm, hfa⟩ := hfs.get hx
      obtain ⟨dxf, hof⟩ := (FormAt.same hfa (S2.trans s4)).ob
      refine ⟨rfl, _, rfl, fa, C, dxf, _, _, rfl, hof, T.cl, T.nP, fl_p, _, hD4, ?_, fun b' o' e' => ?_, ?_⟩
      · rw [List.length_map, List.length_map, List.length_take]
        exact sl_lt (by have := ok.f2; omega)
      · rw [upd_ne (ne_of_none e' hD)]
        exact s4 _ _ e'
      · rw [upd_same, List.take_add_one, efm, List.map_append, List.map_append]
        rfl
    obtain ⟨s3, hDa⟩ := hP
    rw [lf, List.take_length] at hDa
    have S3 := S2.trans s3
    have lfp : (n.fs.map (·.pt)).length = n.fs.length := List.length_map ..
    refine ⟨_, rfl, hl, rfl, ⟨_, SqL.of (S3 _ _ hha)⟩, fun Db hDb => ?_⟩
    refine lc_it (walk_list (K := K) (a := hl) (xs := hv)) (fun i H4 => Same H3 H4 ∧ H4 Db = some (.lst (((n.holds.take i).map fun h => fpt n.fs h.k).map V.int))) ⟨same_new hDb, upd_same⟩ (fun i H4 hi hP => SqL.of (hP.1 _ _ (S3 _ _ hha))) (fun i x' H4 H5 hi hP hy => ?_) (fun H4 hP => ?_)
    · obtain ⟨s4, hD4⟩ := hP
      obtain ⟨rfl, hx⟩ := hy
      obtain ⟨ha, xs, rfl, exs, hha'⟩ := hhs.get hx
      rw [List.getElem?_map] at exs
      obtain ⟨hh, eh, rfl⟩ := Option.map_eq_some_iff.mp exs
      have kl := (ok.ho hh (List.mem_of_getElem? eh)).1
      refine ⟨rfl, _, rfl, _, rfl, ha, _, 0, .int hh.k, rfl, rfl, SqT.of ((S3.trans s4) _ _ hha'), a0, Da, _, _, _, rfl, rfl, SqL.of (s4 _ _ hDa), ints_at (by omega), _, hD4, ?_, fun b' o' e' => ?_, ?_⟩
      · rw [List.length_map, List.length_map, List.length_take]
        exact sl_lt (by have := ok.h2; omega)
      · rw [upd_ne (ne_of_none e' hDb)]
        exact s4 _ _ e'
      · rw [upd_same, List.take_add_one, eh, List.map_append, List.map_append]
        rfl
    obtain ⟨s4, hDb'⟩ := hP
    rw [lh, List.take_length] at hDb'
    have S4 := S3.trans s4
    refine ⟨_, rfl, _, rfl, _, rfl, Da, _, _, _, rfl, rfl, SqL.of (s4 _ _ hDa), ints_at (by omega), _, rfl, _, rfl, (by show 3 ≤ sizeLine; decide), fun gv hgv => ?_⟩
    generalize hG : upd _ gv _ = G5
    obtain ⟨s5, h_gv⟩ := upd_gen hG hgv
    have S5 := S4.trans s5
    have lhp : (hpts n).length = n.holds.length := List.length_map ..
    refine ⟨rl, gv, rv, n.rows, fpt n.fs n.en, hpts n, n.fs.map FormP.pt, rfl, S5 _ _ hra, hrs.same S5, ⟨Db, Da, h_gv, s5 _ _ hDb', s5 _ _ (s4 _ _ hDa)⟩, ok.r1, ok.r2, fun i r e => by rw [lhp, lfp]; exact ok.ro i r e, ok.po, fun pl H6 s6 hpl h_pl => ?_⟩
    have S6 := S5.trans s6
    refine ⟨_, rfl, _, rfl, hl, rl, hv, rv, n.holds, n.rows, rfl, S6 _ _ hha, hhs.same S6, S6 _ _ hra, hrs.same S6, fun h hm => (ok.ho h hm).2.2, fun H7 s7 => ?_⟩
    have S7 := S6.trans s7
    replace h_pl := s7 _ _ h_pl
    refine ⟨_, rfl, _, rfl, rl, _, rfl, .inl (SqL.of (S7 _ _ hra)), _, _, rfl, by omega, by omega, _, rfl, iteF ?_⟩
    have hp0 := hp
    have n_pl : pl ≠ p := (ne_of_none (S5 _ _ hp) hpl).symm
    have z_pl : H pl = none := S5.free hpl
    have nfl : fl ≠ p := ne_of hf hp (fun z => nomatch z)
    have nrl : rl ≠ p := ne_of hra hp (fun z => nomatch z)
    have nhl : hl ≠ p := ne_of hha hp (fun z => nomatch z)
    have B : SameBut p H H7 := .of S7
    replace hp := S7 _ _ hp
    clear s1 s2 s3 s4 s5 s6 s7 S2 S3 S4 S5 S6 S7 hDa hDb' h_gv hG hpl hD hDb hgv
    refine ⟨_, rfl, fl, _, rfl, .inl (SqL.of (B _ _ nfl hf)), fun f2 hf2 => ?_⟩
    have n_f2 : f2 ≠ p := (ne_of_none hp hf2).symm
    have z_f2 : H f2 = none := none_but B n_f2 hf2
    generalize hG : upd _ f2 _ = K1
    obtain ⟨s, h_f2⟩ := upd_gen hG hf2
    replace B := B.trans (.of s)
    replace hp := s _ _ hp
    replace h_pl := s _ _ h_pl
    clear hG s
    refine ⟨_, rfl, p, CN, dx, _, rfl, hp, TN.cl, TN.n_form_list, (by show 0 < 1000; decide), ?_⟩
    generalize hG : upd _ p _ = K2
    obtain ⟨s, hp'⟩ := upd_but hG
    replace B := B.trans s
    clear hp
    have hp := hp'
    clear hp'
    rw [nf0] at hp
    replace h_pl := s _ _ n_pl h_pl
    replace h_f2 := s _ _ n_f2 h_f2
    clear hG s
    refine ⟨_, rfl, _, rfl, p, CN, dx, _, rfl, hp, TN.cl, TN.n_enters_at, (by show 1 < 1000; decide), ?_⟩
    generalize hG : upd _ p _ = K3
    obtain ⟨s, hp'⟩ := upd_but hG
    replace B := B.trans s
    clear hp
    have hp := hp'
    clear hp'
    rw [nf1] at hp
    replace h_pl := s _ _ n_pl h_pl
    replace h_f2 := s _ _ n_f2 h_f2
    clear hG s
    refine ⟨_, rfl, rl, _, rfl, .inl (SqL.of (B _ _ nrl hra)), fun r2 hr2 => ?_⟩
    have n_r2 : r2 ≠ p := (ne_of_none hp hr2).symm
    have z_r2 : H r2 = none := none_but B n_r2 hr2
    generalize hG : upd _ r2 _ = K4
    obtain ⟨s, h_r2⟩ := upd_gen hG hr2
    replace B := B.trans (.of s)
    replace hp := s _ _ hp
    replace h_pl := s _ _ h_pl
    replace h_f2 := s _ _ h_f2
    clear hG s
    refine ⟨_, rfl, p, CN, dx, _, rfl, hp, TN.cl, TN.n_row_list, (by show 2 < 1000; decide), ?_⟩
    generalize hG : upd _ p _ = K5
    obtain ⟨s, hp'⟩ := upd_but hG
    replace B := B.trans s
    clear hp
    have hp := hp'
    clear hp'
    rw [nf2] at hp
    replace h_pl := s _ _ n_pl h_pl
    replace h_f2 := s _ _ n_f2 h_f2
    replace h_r2 := s _ _ n_r2 h_r2
    clear hG s
    refine ⟨_, rfl, hl, _, rfl, .inl (SqL.of (B _ _ nhl hha)), fun h2 hh2 => ?_⟩
    have n_h2 : h2 ≠ p := (ne_of_none hp hh2).symm
    have z_h2 : H h2 = none := none_but B n_h2 hh2
    generalize hG : upd _ h2 _ = K6
    obtain ⟨s, h_h2⟩ := upd_gen hG hh2
    replace B := B.trans (.of s)
    replace hp := s _ _ hp
    replace h_pl := s _ _ h_pl
    replace h_f2 := s _ _ h_f2
    replace h_r2 := s _ _ h_r2
    clear hG s
    refine ⟨_, rfl, p, CN, dx, _, rfl, hp, TN.cl, TN.n_hold_list, (by show 3 < 1000; decide), ?_⟩
    generalize hG : upd _ p _ = K7
    obtain ⟨s, hp'⟩ := upd_but hG
    replace B := B.trans s
    clear hp
    have hp := hp'
    clear hp'
    rw [nf3] at hp
    replace h_pl := s _ _ n_pl h_pl
    replace h_f2 := s _ _ n_f2 h_f2
    replace h_r2 := s _ _ n_r2 h_r2
    replace h_h2 := s _ _ n_h2 h_h2
    clear hG s
    refine ⟨_, rfl, _, rfl, p, CN, dx, _, rfl, hp, TN.cl, TN.n_out_at, (by show 4 < 1000; decide), ?_⟩
    generalize hG : upd _ p _ = K8
    obtain ⟨s, hp'⟩ := upd_but hG
    replace B := B.trans s
    clear hp
    have hp := hp'
    clear hp'
    rw [nf4] at hp
    replace h_pl := s _ _ n_pl h_pl
    replace h_f2 := s _ _ n_f2 h_f2
    replace h_r2 := s _ _ n_r2 h_r2
    replace h_h2 := s _ _ n_h2 h_h2
    clear hG s
    refine ⟨_, rfl, _, rfl, p, CN, dx, _, rfl, hp, TN.cl, TN.n_point_list, (by show 5 < 1000; decide), ?_⟩
    generalize hG : upd _ p _ = K9
    obtain ⟨s, hp'⟩ := upd_but hG
    replace B := B.trans s
    clear hp
    have hp := hp'
    clear hp'
    rw [nf5] at hp
    replace h_pl := s _ _ n_pl h_pl
    replace h_f2 := s _ _ n_f2 h_f2
    replace h_r2 := s _ _ n_r2 h_r2
    replace h_h2 := s _ _ n_h2 h_h2
    clear hG s
    exact q _ ⟨ok, dx, f2, r2, h2, pl, fv, rv, hv, ⟨hp, h_f2, FsAt.butI hfs B hp0, h_r2, hrs.mono (fun a xs e => B _ _ (ne_of e hp0 (fun z => nomatch z)) e), h_h2, hhs.mono (fun a xs e => B _ _ (ne_of e hp0 (fun z => nomatch z)) e), h_pl⟩, z_f2, z_r2, z_h2, z_pl⟩ (fun b o nb e => B b o nb e)
end
end E1

namespace E1
open PySem PySem.Spec PyProof.Rows L2
/-! ### zip of a list and a tuple -/
def ItzM (K : PySem.W.Frag) (a b : Addr) : It where
  go i H := ∃ (xs ys : List V) (x y : V), (SqL K H a xs ∧ xs[i]? = some x) ∧ SqT K H b ys ∧ ys[i]? = some y
  yld i H v H' := ∃ T x y, (v = .ref T ∧ H T = none ∧ H' = upd H T (.tup [x, y])) ∧ (∀ xs, SqL K H a xs → xs[i]? = some x) ∧ ∀ ys, SqT K H b ys → ys[i]? = some y
  stop i H := ∃ xs ys : List V, (SqL K H a xs ∧ SqT K H b ys) ∧ (i = xs.length ∨ i = ys.length) ∧ i ≤ xs.length ∧ i ≤ ys.length
/-- the five cells of such a zip -/
structure ZpM (h : Heap) (z TI TO i1 i2 a b : Addr) (i : Nat) : Prop where
  zip : IsZip h z TI TO .none
  ti : IsPair h TI (.ref i1) (.ref i2)
  to : ∃ x y, IsPair h TO x y
  one : h.IsListIter i1 a i
  two : h.IsTupleIter i2 b i
theorem ZpM.cells {h : Heap} {z TI TO i1 i2 a b : Addr} {i : Nat} (s : ZpM h z TI TO i1 i2 a b i) : ∀ c ∈ [z, TI, TO, i1, i2], ∃ o, h.get? c = some o ∧ ∀ v, o.data ≠ .cell v := fun c hc => by
  obtain ⟨o1, e1, _, d1⟩ := s.one
  obtain ⟨o2, e2, _, d2⟩ := s.two
  obtain ⟨x, y, e3⟩ := s.to
  simp only [List.mem_cons, List.not_mem_nil, or_false] at hc
  rcases hc with rfl | rfl | rfl | rfl | rfl
  · exact ⟨_, s.zip, fun _ n => nomatch n⟩
  · exact ⟨_, s.ti, fun _ n => nomatch n⟩
  · exact ⟨_, e3, fun _ n => nomatch n⟩
  · exact ⟨o1, e1, fun _ n => nomatch d1.symm.trans n⟩
  · exact ⟨o2, e2, fun _ n => nomatch d2.symm.trans n⟩
theorem ZpM.sep {z TI TO i1 i2 a b : Addr} (D : ZipApart z TI TO i1 i2 a b) : ZipSep2 z TI TO i1 i2 [i1, a] [i2, b] := by
  constructor <;> first | exact D.TIz | exact D.TOz | exact D.TITO | exact D.TIi1 | exact D.TIi2 | skip
  all_goals simp only [List.mem_cons, List.not_mem_nil, or_false, true_or, not_or]
  · exact ⟨D.i1z.symm, D.l1z.symm⟩
  · exact ⟨D.TOi1, D.l1TO.symm⟩
  · exact ⟨D.i2z.symm, D.l2z.symm⟩
  · exact ⟨D.TOi2, D.l2TO.symm⟩
  · exact ⟨D.i12, D.l2i1.symm⟩
  · exact ⟨D.i12.symm, D.l1i2.symm⟩
theorem turn_zipM {P : Program} {w : World} {K : PySem.W.Frag} {elts : List Expr} {kk : Nat} {tpos : Pos} {a b z TI TO i1 i2 : Addr} (D : ZipApart z TI TO i1 i2 a b) : Turn P w K (.Tuple elts kk tpos) (ItzM K a b) [z, TI, TO, i1, i2] z (fun i h => ZpM h z TI TO i1 i2 a b i) := by
  have sp := ZpM.sep D
  refine ⟨List.mem_cons_self .., fun i h st => st.cells, fun i h h' st k => ?_, fun X hP hw hK hc i pins s σ H E I hf st hg => ?_, fun X hP hw hK hc i pins s σ H E I hf st hg => ?_, fun A i s Q E st h => wpAny_pyIter_zip st.zip h⟩
  · obtain ⟨x, y, e⟩ := st.to
    exact ⟨k z (by simp) _ st.zip, k TI (by simp) _ st.ti, ⟨x, y, k TO (by simp) _ e⟩, st.one.at fun o => k i1 (by simp) o, st.two.at fun o => k i2 (by simp) o⟩
  · subst hP hw hK
    obtain ⟨xs, ys, x, y, ⟨qx, ex⟩, qy, ey⟩ := hg
    obtain ⟨l1, rv1, p1, _⟩ := I.list qx
    obtain ⟨l2, rv2, p2, _⟩ := I.tuple qy
    obtain ⟨u1, eu1, ru1⟩ := rv1.get ex
    obtain ⟨u2, eu2, ru2⟩ := rv2.get ey
    obtain ⟨t1, t2, e3⟩ := st.to
    have hd : X.A.in1.handled = none := I.ok.hd hc
    have zl : z < s.heap.objs.size := Heap.lt_size st.zip
    have b1 : i < l1.toArray.size := by simpa using (List.getElem?_eq_some_iff.mp eu1).1
    have b2 : i < l2.toArray.size := by simpa using (List.getElem?_eq_some_iff.mp eu2).1
    refine wpAny_pyNext_zipD2_item sp (Draws.list hd i1 a D.l1i1 l1.toArray) (Draws.tuple hd i2 b D.l2i2 l2.toArray) st.zip st.ti e3 ⟨st.one, p1.isList⟩ ⟨st.two, p2⟩ b1 b2 fun v1 v2 h' tk y1 y2 z' to' s1 s2 hT hsz hk => ?_
    have ev1 : v1 = u1 := by
      have q : l1.toArray[i]? = some v1 := y1
      rw [List.getElem?_toArray, eu1] at q
      exact (Option.some.inj q).symm
    have ev2 : v2 = u2 := by
      have q : l2.toArray[i]? = some v2 := y2
      rw [List.getElem?_toArray, eu2] at q
      exact (Option.some.inj q).symm
    subst ev1 ev2
    refine ⟨_, rfl, wpAny_letOwnedTupleGo_zip (s := { s with heap := h', toks := tk }) z' fun g z'' sb => ?_⟩
    have nz : s.heap.objs.size ≠ z := Nat.ne_of_gt zl
    have lay : ObjOk X.prog X.w (upd H s.heap.objs.size (.tup [x, y])) g s.heap.objs.size (.tup [x, y]) := ⟨by show 2 ≤ sizeLine; decide, _, .cons ru1 (.cons ru2 .nil), ⟨_, (sb.2 _ nz).trans hT, rfl, _, rfl⟩⟩
    have far : ∀ c o, c ∉ [z, TI, TO, i1, i2] → s.heap.get? c = some o → g.get? c = some o := fun c o n e => by
      simp only [List.mem_cons, List.not_mem_nil, or_false, not_or] at n
      exact (sb.2 _ n.1).trans (hk c o n.1 n.2.2.1 n.2.2.2.1 n.2.2.2.2 e)
    have J : Inv X pins σ (upd H s.heap.objs.size (.tup [x, y])) { s with heap := g, toks := tk } := I.turnedNew (t' := tk) (ch := [z, TI, TO, i1, i2]) far hf (Nat.le_refl _) lay
    refine ⟨.ref s.heap.objs.size, _, J, rfl, ⟨_, x, y, ⟨rfl, I.hok.fresh (Nat.le_refl _), rfl⟩, fun l hl => (I.list_inj hl qx).symm ▸ ex, fun l hl => (I.tuple_inj hl qy).symm ▸ ey⟩, ⟨z'', ?_, ⟨_, _, (sb.2 _ D.TOz).trans to'⟩, s1.1.at fun o q => (sb.2 _ D.i1z).trans q, s2.1.at fun o q => (sb.2 _ D.i2z).trans q⟩, fun c hcm => ?_⟩
    · exact (sb.2 _ D.TIz).trans (hk _ _ D.TIz D.TITO D.TIi1 D.TIi2 st.ti)
    · obtain ⟨o, eo, _⟩ := st.cells c hcm
      rw [upd_ne (Nat.ne_of_lt (Heap.lt_size eo))]
      exact (hf c hcm).1
  · subst hP hw hK
    obtain ⟨xs, ys, ⟨qx, qy⟩, en, n1, n2⟩ := hg
    obtain ⟨l1, rv1, p1, _⟩ := I.list qx
    obtain ⟨l2, rv2, p2, _⟩ := I.tuple qy
    have e1 := rv1.length
    have e2 := rv2.length
    obtain ⟨t1, t2, e3⟩ := st.to
    have hd : X.A.in1.handled = none := I.ok.hd hc
    refine wpAny_pyNext_zipD2_end sp (Draws.list hd i1 a D.l1i1 l1.toArray) (Draws.tuple hd i2 b D.l2i2 l2.toArray) st.zip st.ti e3 ⟨st.one, p1.isList⟩ ⟨st.two, p2⟩ (by simp; omega) (by simp; omega) (by simp; omega) fun h' tk hk => ⟨rfl, I.turnedL (t' := tk) (ch := [z, TI, TO, i1, i2]) (fun c o n e => ?_) hf⟩
    simp only [List.mem_cons, List.not_mem_nil, or_false, not_or] at n
    exact hk c o n.1 n.2.2.1 n.2.2.2.1 n.2.2.2.2 e
def iZipM (K : PySem.W.Frag) (ta : TA) : TI := fun σ H R => ta σ H fun vs H1 => ∃ a b xs ys, vs = [.ref a, .ref b] ∧ SqL K H1 a xs ∧ SqT K H1 b ys ∧ R (ItzM K a b) H1
theorem pi_zipM {X : Cx} {e e2 : Expr} {ta : TA} {p pos tpos : Pos} {elts : List Expr} {kk : Nat} (hg : Gl X "zip") (hm : X.mg "zip" = none) (ha : PA X [e, e2] ta)
    (hs : starEach [e, e2] X.env = (false, eval e X.env) :: starEach [e2] X.env := by rfl) (hpl : (backTo pos (starEach [e2] X.env)).any (·.1) = false := by rfl) :
    PI X (.Tuple elts kk tpos) (.Call (.Name "zip" p) [e, e2] [] pos) (iZipM X.K ta) := by
  refine ⟨fun pins s σ H R I h => Call_ (ld_blt I hg hm PyProof.Rows.boot_zip (PyProof.Rows.callWith_type1 (thn (ha.run pos pins s σ H _ I h) fun us t ⟨vs, G, J, rv, q⟩ => ?_) hs hpl))⟩
  obtain ⟨a, b, xs, ys, rfl, qx, qy, q⟩ := q
  obtain ⟨u1, u2, rfl, r1, r2⟩ := vals2 rv
  cases r1
  cases r2
  obtain ⟨l1, _, p1, _⟩ := J.list qx
  obtain ⟨l2, _, p2, _⟩ := J.tuple qy
  obtain ⟨o2, e2', _⟩ := id p2
  refine zip_begins2 (begins_list a l1.toArray) (begins_tuple b l2.toArray) p1.isList p2 fun h' hz hTI hTO h1 h2 hsz hk => wpAny_pyIter_zip hz ?_
  refine ⟨_, [t.heap.objs.size + 4, t.heap.objs.size + 2, t.heap.objs.size + 3, t.heap.objs.size, t.heap.objs.size + 1], _, _, G, rfl, J.kept (t' := t.toks) hk, turn_zipM (PySem.W.ktu_apart t.heap.objs.size a b p1.lt (Heap.lt_size e2')), ⟨hz, hTI, ⟨_, _, hTO⟩, ⟨_, h1, rfl, rfl⟩, ⟨_, h2, rfl, rfl⟩⟩, fun c hc => ?_, q⟩
  have le : t.heap.objs.size ≤ c := by
    simp only [List.mem_cons, List.not_mem_nil, or_false] at hc
    rcases hc with rfl | rfl | rfl | rfl | rfl
    all_goals first | exact Nat.le_refl _ | exact Nat.le_add_right _ _
  exact J.fpOk le (J.hok.fresh le)
theorem walk_zipM {K : PySem.W.Frag} {a b : Addr} {xs ys : List V} (hl : xs.length = ys.length) : Walk (ItzM K a b) xs.length (fun H => SqL K H a xs ∧ SqT K H b ys) (YPair (fun i => xs[i]?) (fun i => ys[i]?)) := by
  refine ⟨fun i H hi q => ⟨xs, ys, xs[i], ys[i]'(by omega), ⟨q.1, by simp [hi]⟩, q.2, by simp [show i < ys.length by omega]⟩, fun H q => ⟨xs, ys, q, .inl rfl, Nat.le_refl _, Nat.le_of_eq hl⟩, fun i H v H' _ q y => ?_⟩
  obtain ⟨T, l, r, ⟨e1, e2, e3⟩, gl, gr⟩ := y
  exact ⟨T, l, r, e1, e2, e3, gl _ q.1, gr _ q.2⟩
end E1

namespace E1
open PySem PySem.Spec PyProof.Rows L2
/-! ### the numbers of a turn -/
instance : Inhabited FormP := ⟨⟨none, 0, .down, false⟩⟩
def frm (fs : List FormP) (k : Nat) : FormP := fs.getD k default
/-- lists grown one by one -/
def accL (g : List Int → Row → Int) (rows : List Row) : List Int := rows.foldl (fun a r => a ++ [g a r]) []
theorem accL_snoc (g : List Int → Row → Int) (rows : List Row) (r : Row) : accL g (rows ++ [r]) = accL g rows ++ [g (accL g rows) r] := by
  unfold accL
  rw [List.foldl_append]
  rfl
theorem accL_len (g : List Int → Row → Int) (rows : List Row) : (accL g rows).length = rows.length := by
  have key : ∀ (rows : List Row) (acc : List Int), (rows.foldl (fun a r => a ++ [g a r]) acc).length = acc.length + rows.length := by
    intro rows
    induction rows with
    | nil => exact fun acc => rfl
    | cons r rs ih =>
      intro acc
      rw [List.foldl_cons, ih]
      simp only [List.length_append, List.length_cons, List.length_nil]
      omega
  have := key rows []
  rw [List.length_nil, Nat.zero_add] at this
  exact this
theorem accL_pre (g : List Int → Row → Int) (a b : List Row) : ∃ t, accL g (a ++ b) = accL g a ++ t := by
  have key : ∀ (b : List Row) (acc : List Int), ∃ t, b.foldl (fun a r => a ++ [g a r]) acc = acc ++ t := by
    intro b
    induction b with
    | nil => exact fun acc => ⟨[], (List.append_nil _).symm⟩
    | cons r rs ih =>
      intro acc
      obtain ⟨t, e⟩ := ih (acc ++ [g acc r])
      exact ⟨[g acc r] ++ t, by rw [List.foldl_cons, e, List.append_assoc]⟩
  obtain ⟨t, e⟩ := key b (accL g a)
  refine ⟨t, ?_⟩
  rw [← e]
  unfold accL
  rw [List.foldl_append]
theorem accL_take (g : List Int → Row → Int) (rows : List Row) (i : Nat) : (accL g rows).take i = accL g (rows.take i) := by
  by_cases h : i ≤ rows.length
  · obtain ⟨t, e⟩ := accL_pre g (rows.take i) (rows.drop i)
    rw [List.take_append_drop] at e
    rw [e, List.take_append_of_le_length (by rw [accL_len, List.length_take]; omega), List.take_of_length_le (by rw [accL_len, List.length_take]; omega)]
  · rw [List.take_of_length_le (by rw [accL_len]; omega), List.take_of_length_le (by omega)]
theorem accL_next {g : List Int → Row → Int} {rows : List Row} {i : Nat} {r : Row} (h : rows[i]? = some r) : accL g (rows.take (i + 1)) = accL g (rows.take i) ++ [g (accL g (rows.take i)) r] := by
  rw [List.take_add_one, h, Option.toList_some, accL_snoc]
theorem accL_at {g : List Int → Row → Int} {rows : List Row} {i : Nat} {r : Row} (h : rows[i]? = some r) : (accL g rows)[i]? = some (g (accL g (rows.take i)) r) := by
  have hl := (List.getElem?_eq_some_iff.mp h).1
  have e := accL_take g rows (i + 1)
  rw [accL_next h] at e
  have e2 := congrArg (fun l => l[i]?) e
  simp only [List.getElem?_take] at e2
  rw [if_pos (Nat.lt_succ_self i)] at e2
  rw [e2, List.getElem?_append_right (by rw [accL_len, List.length_take]; omega), accL_len, List.length_take, Nat.min_eq_left (Nat.le_of_lt hl), Nat.sub_self]
  rfl
theorem ptsOf_acc (en : Int) (hp fp : List Int) (rows : List Row) : ptsOf en hp fp rows = accL (rowPt en hp fp) rows := rfl
/-- a row's number, from the numbers ahead and the points -/
def sumN (pts nums : List Int) (a b : Nat) (sg : Int) : Int :=
  let x := pts.getD a 0; let y := pts.getD b 0; let p := if y > x then y else x
  nums.getD a 0 * 2 ^ (p - x).toNat + sg * (nums.getD b 0 * 2 ^ (p - y).toNat)
def numRow (fs : List FormP) (pts : List Int) (x : Int) (st nums : List Int) : Row → Int
  | .inn => x
  | .old k => st.getD k 0
  | .times f _ a => f * nums.getD a 0
  | .plus a b => sumN pts nums a b 1
  | .less a b => sumN pts nums a b (-1)
  | .move _ a => nums.getD a 0
  | .keep f a => let F := frm fs f; wordF F.w F.st (stepsAt F.pt F.m (nums.getD a 0) (pts.getD a 0))
def NetP.nums (n : NetP) (x : Int) (st : List Int) : List Int := accL (numRow n.fs n.pts x st) n.rows
/-! ### sizes -/
def SzN (i : Nat) : Nat := 70 + 600 * i
theorem abs_mul_lt {x y : Int} {a b : Nat} (hx : x.natAbs < 2 ^ a) (hy : y.natAbs < 2 ^ b) : (x * y).natAbs < 2 ^ (a + b) := by
  rw [Int.natAbs_mul, Nat.pow_add]
  exact Nat.mul_lt_mul'' hx hy
theorem abs_add_lt {x y : Int} {a : Nat} (hx : x.natAbs < 2 ^ a) (hy : y.natAbs < 2 ^ a) : (x + y).natAbs < 2 ^ (a + 1) := by
  rw [Nat.pow_succ]
  generalize 2 ^ a = N at *
  omega
theorem div_abs (t b : Int) : (t / b).natAbs ≤ t.natAbs := Int.natAbs_ediv_le_natAbs _ _
theorem half_abs {t b : Int} (hb : 0 < b) : (fHalf t b).natAbs ≤ t.natAbs + 1 := by
  rw [fHalf_is hb]
  have := div_abs t b
  split <;> omega
theorem rnd_abs (m : Mn) {t b : Int} (hb : 0 < b) : (m.f t b).natAbs ≤ t.natAbs + 2 := by
  have h1 := div_abs t b
  have h2 := div_abs (-t) b
  have h3 := half_abs (t := t) hb
  have h4 := half_abs (t := -t) hb
  cases m with
  | down => show (fDown t b).natAbs ≤ _; unfold fDown; omega
  | up => show (fUp t b).natAbs ≤ _; unfold fUp; omega
  | inn => show (fIn t b).natAbs ≤ _; unfold fIn fDown fUp; split <;> omega
  | out => show (fOut t b).natAbs ≤ _; unfold fOut fDown fUp; split <;> omega
  | half => show (fHalf t b).natAbs ≤ _; omega
  | even => show (fEven t b).natAbs ≤ _; unfold fEven; split <;> omega
  | far => show (fFar t b).natAbs ≤ _; unfold fFar; split <;> omega
theorem steps_lt {pt p n : Int} {m : Mn} {a : Nat} (hn : n.natAbs < 2 ^ a) (h0 : -64 ≤ pt) (h1 : pt ≤ 64) (p0 : -200 ≤ p) (p1 : p ≤ 200) : (stepsAt pt m n p).natAbs < 2 ^ (a + 300) := by
  unfold stepsAt
  split
  · refine Nat.lt_of_lt_of_le (abs_mul_lt hn (two_pow_lt (k := (pt - p).toNat) (n := 299) (by omega))) (Nat.pow_le_pow_right (by decide) (by omega))
  · have := rnd_abs m (t := n) (two_pow_pos (p - pt).toNat)
    have e : 2 ^ (a + 300) = 2 ^ a * 2 ^ 300 := Nat.pow_add ..
    have one : 0 < 2 ^ a := Nat.pow_pos (by decide)
    have big : 4 ≤ 2 ^ 300 := by decide
    have : 2 ^ a * 4 ≤ 2 ^ a * 2 ^ 300 := Nat.mul_le_mul_left _ big
    omega
theorem two_lt64 {y : Int} (h0 : 2 ≤ y) (h1 : y ≤ 64) : (two y).natAbs ≤ 2 ^ 64 := by
  unfold two
  rw [Int.natAbs_pow]
  exact Nat.pow_le_pow_right (by decide) (by omega)
theorem word_abs (w : Option Int) (st : Bool) (n : Int) (hw : WOk w) : (wordF w st n).natAbs ≤ n.natAbs ∨ (wordF w st n).natAbs < 2 ^ 70 := by
  unfold wordF
  cases w with
  | none => exact .inl (Nat.le_refl _)
  | some y =>
    obtain ⟨y0, y1⟩ := hw y rfl
    have t1 : (two (y - 1)).natAbs ≤ 2 ^ 64 := by
      unfold two
      rw [Int.natAbs_pow]
      exact Nat.pow_le_pow_right (by decide) (by omega)
    have t2 := two_lt64 y0 y1
    have p1 := two_pos (y - 1)
    have p2 := two_pos y
    have b1 : (2 : Nat) ^ 70 = 2 ^ 64 * 64 := by decide
    have m0 := Int.emod_nonneg (n - lst y) (show two y ≠ 0 by omega)
    have m1 := Int.emod_lt_of_pos (n - lst y) p2
    by_cases h : inR (some y) n = true
    · left
      show (if inR (some y) n = true then n else if st = true then (if n < 0 then lst y else grt y) else (n - lst y) % two y + lst y).natAbs ≤ n.natAbs
      rw [if_pos h]
      exact Nat.le_refl _
    · right
      rw [b1]
      show (if inR (some y) n = true then n else if st = true then (if n < 0 then lst y else grt y) else (n - lst y) % two y + lst y).natAbs < _
      rw [if_neg h]
      unfold lst grt at *
      generalize (2 : Nat) ^ 64 = N at *
      generalize two (y - 1) = u at *
      generalize two y = v at *
      generalize (n - -u) % v = r at *
      split
      · split <;> omega
      · omega
structure NumSm (n : NetP) (x : Int) (st : List Int) : Prop where
  x : x.natAbs < 2 ^ 70
  st : ∀ k ∈ st, k.natAbs < 2 ^ 70
theorem getD_lt {l : List Int} {N i : Nat} (h : ∀ k ∈ l, k.natAbs < N) (hN : 0 < N) : (l.getD i 0).natAbs < N := by
  rw [List.getD_eq_getElem?_getD]
  cases e : l[i]? with
  | none => exact hN
  | some k => exact h k (List.mem_of_getElem? e)
theorem num_lt {n : NetP} (ok : NetOk n) {x : Int} {st : List Int} (ko : NumSm n x st) : ∀ i, i ≤ n.rows.length → ∀ k ∈ accL (numRow n.fs n.pts x st) (n.rows.take i), k.natAbs < 2 ^ SzN i := by
  intro i
  induction i with
  | zero => intro _ k hk; cases hk
  | succ i ih =>
    intro hi k hk
    obtain ⟨r, er⟩ : ∃ r, n.rows[i]? = some r := ⟨_, List.getElem?_eq_getElem (by omega)⟩
    rw [accL_next er] at hk
    have ih' := ih (by omega)
    have lp : 0 < 2 ^ SzN i := Nat.pow_pos (by decide)
    have wide : ∀ {y a : Nat}, y < 2 ^ a → a ≤ SzN (i + 1) → y < 2 ^ SzN (i + 1) := fun h l => up h l
    have sz : SzN (i + 1) = SzN i + 600 := rfl
    have s70 : 70 ≤ SzN i := Nat.le_add_right _ _
    rcases List.mem_append.mp hk with hk | hk
    · exact wide (ih' k hk) (by omega)
    rw [List.mem_singleton.mp hk]
    have at' : ∀ a, ((accL (numRow n.fs n.pts x st) (n.rows.take i)).getD a 0).natAbs < 2 ^ SzN i := fun a => getD_lt ih' lp
    have pp : ∀ a, -200 ≤ n.pts.getD a 0 ∧ n.pts.getD a 0 ≤ 200 := fun a => by
      rw [List.getD_eq_getElem?_getD]
      cases e : n.pts[a]? with
      | none => exact ⟨by decide, by decide⟩
      | some k => exact ok.po k (List.mem_of_getElem? e)
    have sums : ∀ a b sg, (sg = 1 ∨ sg = -1) → (sumN n.pts (accL (numRow n.fs n.pts x st) (n.rows.take i)) a b sg).natAbs < 2 ^ SzN (i + 1) := fun a b sg hs => by
      obtain ⟨a0, a1⟩ := pp a
      obtain ⟨b0, b1⟩ := pp b
      unfold sumN
      have k1 : ∀ c, ((if n.pts.getD b 0 > n.pts.getD a 0 then n.pts.getD b 0 else n.pts.getD a 0) - n.pts.getD c 0).toNat < 401 := fun c => by
        obtain ⟨c0, c1⟩ := pp c
        split <;> omega
      have x1 := abs_mul_lt (at' a) (two_pow_lt (k1 a))
      have x2 := abs_mul_lt (at' b) (two_pow_lt (k1 b))
      refine wide (abs_add_lt x1 ?_) (by omega)
      rcases hs with rfl | rfl
      · rw [Int.one_mul]
        exact x2
      · rw [Int.neg_mul, Int.one_mul, Int.natAbs_neg]
        exact x2
    have ro := ok.ro i r er
    match r, ro with
    | .inn, _ => exact wide ko.x (by omega)
    | .old k, _ => exact wide (getD_lt ko.st (by decide)) (by omega)
    | .times f m a, h => exact wide (abs_mul_lt (show f.natAbs < 2 ^ 63 from h.1) (at' a)) (by omega)
    | .plus a b, _ => exact sums a b 1 (.inl rfl)
    | .less a b, _ => exact sums a b (-1) (.inr rfl)
    | .move m a, _ => exact wide (at' a) (by omega)
    | .keep f a, h =>
      obtain ⟨p0, p1⟩ := pp a
      have fo : (frm n.fs f).Ok := by
        have e : frm n.fs f = n.fs[f]'h.1 := by
          unfold frm
          rw [List.getD_eq_getElem?_getD, List.getElem?_eq_getElem h.1]
          rfl
        rw [e]
        exact ok.fo _ (List.getElem_mem _)
      have s1 := steps_lt (m := (frm n.fs f).m) (at' a) fo.p0 fo.p1 p0 p1
      rcases word_abs (frm n.fs f).w (frm n.fs f).st (stepsAt (frm n.fs f).pt (frm n.fs f).m ((accL (numRow n.fs n.pts x st) (n.rows.take i)).getD a 0) (n.pts.getD a 0)) fo.wo with h | h
      · exact wide (Nat.lt_of_le_of_lt h s1) (by omega)
      · exact wide h (by omega)

/-- all numbers of a turn are of a size that can be reckoned with -/
def NumOk (n : NetP) (x : Int) (st : List Int) : Prop := ∀ k ∈ n.nums x st, k.natAbs < 2 ^ 900000
theorem NumOk.pre {n : NetP} {x : Int} {st : List Int} (h : NumOk n x st) {i : Nat} {k : Int} (hk : k ∈ accL (numRow n.fs n.pts x st) (n.rows.take i)) : k.natAbs < 2 ^ 900000 := by
  rw [← accL_take] at hk
  exact h k (List.mem_of_mem_take hk)
def Row.small : Row → Prop
  | .times f _ _ => f.natAbs ≤ 9
  | _ => True
/-- a net whose numbers grow slowly -/
structure Calm (n : NetP) : Prop where
  rs : ∀ r ∈ n.rows, r.small
  ps : ∀ p ∈ n.pts, -48 ≤ p ∧ p ≤ 48
  fs : ∀ f ∈ n.fs, -7 ≤ f.pt ∧ f.pt ≤ 7
  ln : n.rows.length ≤ 27
def Mild (n : NetP) : Prop := (∀ f ∈ n.fs, f.w ≠ none) ∨ Calm n
theorem steps_lt2 {pt p n : Int} {m : Mn} {a : Nat} (hn : n.natAbs < 2 ^ a) (h0 : -7 ≤ pt) (h1 : pt ≤ 7) (p0 : -48 ≤ p) (p1 : p ≤ 48) : (stepsAt pt m n p).natAbs < 2 ^ (a + 60) := by
  unfold stepsAt
  split
  · refine Nat.lt_of_lt_of_le (abs_mul_lt hn (two_pow_lt (k := (pt - p).toNat) (n := 59) (by omega))) (Nat.pow_le_pow_right (by decide) (by omega))
  · have := rnd_abs m (t := n) (two_pow_pos (p - pt).toNat)
    have e : 2 ^ (a + 60) = 2 ^ a * 2 ^ 60 := Nat.pow_add ..
    have one : 0 < 2 ^ a := Nat.pow_pos (by decide)
    have big : 4 ≤ 2 ^ 60 := by decide
    have : 2 ^ a * 4 ≤ 2 ^ a * 2 ^ 60 := Nat.mul_le_mul_left _ big
    omega
theorem num_calm {n : NetP} (ok : NetOk n) (cm : Calm n) {x : Int} {st : List Int} {s : Nat} (s70 : 70 ≤ s) (hx : x.natAbs < 2 ^ 70) (hst : ∀ k ∈ st, k.natAbs < 2 ^ s) : ∀ i, i ≤ n.rows.length → ∀ k ∈ accL (numRow n.fs n.pts x st) (n.rows.take i), k.natAbs < 2 ^ (s + 100 * i) := by
  intro i
  induction i with
  | zero => intro _ k hk; cases hk
  | succ i ih =>
    intro hi k hk
    obtain ⟨r, er⟩ : ∃ r, n.rows[i]? = some r := ⟨_, List.getElem?_eq_getElem (by omega)⟩
    rw [accL_next er] at hk
    have ih' := ih (by omega)
    have lp : 0 < 2 ^ (s + 100 * i) := Nat.pow_pos (by decide)
    have wide : ∀ {y a : Nat}, y < 2 ^ a → a ≤ s + 100 * (i + 1) → y < 2 ^ (s + 100 * (i + 1)) := fun h l => up h l
    rcases List.mem_append.mp hk with hk | hk
    · exact wide (ih' k hk) (by omega)
    rw [List.mem_singleton.mp hk]
    have at' : ∀ a, ((accL (numRow n.fs n.pts x st) (n.rows.take i)).getD a 0).natAbs < 2 ^ (s + 100 * i) := fun a => getD_lt ih' lp
    have pp : ∀ a, -48 ≤ n.pts.getD a 0 ∧ n.pts.getD a 0 ≤ 48 := fun a => by
      rw [List.getD_eq_getElem?_getD]
      cases e : n.pts[a]? with
      | none => exact ⟨by decide, by decide⟩
      | some k => exact cm.ps k (List.mem_of_getElem? e)
    have sums : ∀ a b sg, (sg = 1 ∨ sg = -1) → (sumN n.pts (accL (numRow n.fs n.pts x st) (n.rows.take i)) a b sg).natAbs < 2 ^ (s + 100 * (i + 1)) := fun a b sg hs => by
      obtain ⟨a0, a1⟩ := pp a
      obtain ⟨b0, b1⟩ := pp b
      unfold sumN
      have k1 : ∀ c, ((if n.pts.getD b 0 > n.pts.getD a 0 then n.pts.getD b 0 else n.pts.getD a 0) - n.pts.getD c 0).toNat < 97 := fun c => by
        obtain ⟨c0, c1⟩ := pp c
        split <;> omega
      have x1 := abs_mul_lt (at' a) (two_pow_lt (k1 a))
      have x2 := abs_mul_lt (at' b) (two_pow_lt (k1 b))
      refine wide (abs_add_lt x1 ?_) (by omega)
      rcases hs with rfl | rfl
      · rw [Int.one_mul]
        exact x2
      · rw [Int.neg_mul, Int.one_mul, Int.natAbs_neg]
        exact x2
    have ro := ok.ro i r er
    have rs := cm.rs r (List.mem_of_getElem? er)
    match r, ro, rs with
    | .inn, _, _ => exact wide hx (by omega)
    | .old k, _, _ => exact wide (getD_lt hst (Nat.pow_pos (by decide))) (by omega)
    | .times f m a, h, rs => exact wide (abs_mul_lt (show f.natAbs < 2 ^ 4 from Nat.lt_of_le_of_lt rs (by decide)) (at' a)) (by omega)
    | .plus a b, _, _ => exact sums a b 1 (.inl rfl)
    | .less a b, _, _ => exact sums a b (-1) (.inr rfl)
    | .move m a, _, _ => exact wide (at' a) (by omega)
    | .keep f a, h, _ =>
      obtain ⟨p0, p1⟩ := pp a
      have e : frm n.fs f = n.fs[f]'h.1 := by
        unfold frm
        rw [List.getD_eq_getElem?_getD, List.getElem?_eq_getElem h.1]
        rfl
      have fo : (frm n.fs f).Ok := by
        rw [e]
        exact ok.fo _ (List.getElem_mem _)
      have ff : -7 ≤ (frm n.fs f).pt ∧ (frm n.fs f).pt ≤ 7 := by
        rw [e]
        exact cm.fs _ (List.getElem_mem _)
      have s1 := steps_lt2 (m := (frm n.fs f).m) (at' a) ff.1 ff.2 p0 p1
      rcases word_abs (frm n.fs f).w (frm n.fs f).st (stepsAt (frm n.fs f).pt (frm n.fs f).m ((accL (numRow n.fs n.pts x st) (n.rows.take i)).getD a 0) (n.pts.getD a 0)) fo.wo with h | h
      · exact wide (Nat.lt_of_le_of_lt h s1) (by omega)
      · exact wide h (by omega)
theorem all_take {n : NetP} {x : Int} {st : List Int} {N : Nat} (h : ∀ k ∈ accL (numRow n.fs n.pts x st) (n.rows.take n.rows.length), k.natAbs < N) : ∀ k ∈ n.nums x st, k.natAbs < N := fun k hk => h k (by
  rw [List.take_length]
  exact hk)
end E1

namespace E1
open PySem PySem.Spec PyProof.Rows L2

def NIs (C CN : Addr) (H : Hp) (p : Addr) (n : NetP) : Prop := NetAt C CN H p n
/-- a method of a net that tells a new list -/
def spFormsM (C CN : Addr) : Sp := fun vs H Q _ => ∃ (p : Addr) (n : NetP), vs = [.ref p] ∧ NetAt C CN H p n ∧ ∀ l fv H', H l = none → Same H H' → H' l = some (.lst fv) → FsAt C H' fv n.fs → Q (.ref l) H'
def spRowsM (C CN : Addr) : Sp := fun vs H Q _ => ∃ (p : Addr) (n : NetP), vs = [.ref p] ∧ NetAt C CN H p n ∧ ∀ l rv H', H l = none → Same H H' → H' l = some (.lst rv) → TsAt H' rv (n.rows.map Row.vs) → Q (.ref l) H'
def spHoldsM (C CN : Addr) : Sp := fun vs H Q _ => ∃ (p : Addr) (n : NetP), vs = [.ref p] ∧ NetAt C CN H p n ∧ ∀ l hv H', H l = none → Same H H' → H' l = some (.lst hv) → TsAt H' hv (n.holds.map Hold.vs) → Q (.ref l) H'
def spPtsM (C CN : Addr) : Sp := fun vs H Q _ => ∃ (p : Addr) (n : NetP), vs = [.ref p] ∧ NetAt C CN H p n ∧ ∀ l H', H l = none → Same H H' → H' l = some (.lst (n.pts.map V.int)) → Q (.ref l) H'
def spEnM (C CN : Addr) : Sp := fun vs H Q _ => ∃ (p : Addr) (n : NetP), vs = [.ref p] ∧ NetAt C CN H p n ∧ Q (.int n.en) H
def spEnterForm (C CN : Addr) : Sp := fun vs H Q _ => ∃ (p : Addr) (n : NetP), vs = [.ref p] ∧ NetAt C CN H p n ∧ ∀ q H', Same H H' → FAt C H' q (frm n.fs n.en) → Q (.ref q) H'
def spSumNum : Sp := fun vs H Q _ => ∃ (ra na pa : Addr) (r : Row) (a b : Nat) (sg : Int) (nums pts : List Int), vs = [.ref ra, .ref na, .ref pa] ∧ H ra = some (.tup r.vs) ∧ ((r = .plus a b ∧ sg = 1) ∨ (r = .less a b ∧ sg = -1)) ∧ H na = some (.lst (nums.map V.int)) ∧ H pa = some (.lst (pts.map V.int)) ∧ a < nums.length ∧ b < nums.length ∧ nums.length ≤ pts.length ∧ (∀ k ∈ nums, k.natAbs < 2 ^ 900000) ∧ (∀ p ∈ pts, -200 ≤ p ∧ p ≤ 200) ∧ Q (.int (sumN pts nums a b sg)) H
def spNumRow (C : Addr) : Sp := fun vs H Q _ => ∃ (ra na fa pa : Addr) (r : Row) (fv : List V) (fs : List FormP) (hc : Nat) (x : Int) (st nums pts : List Int), vs = [.ref ra, .ref na, .ref fa, .ref pa] ∧ H ra = some (.tup r.vs) ∧ r.kd ≠ .inn ∧ r.kd ≠ .old ∧ H na = some (.lst (nums.map V.int)) ∧ H fa = some (.lst fv) ∧ FsAt C H fv fs ∧ H pa = some (.lst (pts.map V.int)) ∧ RowOk hc fs.length nums.length r ∧ nums.length ≤ pts.length ∧ (∀ k ∈ nums, k.natAbs < 2 ^ 900000) ∧ (∀ p ∈ pts, -200 ≤ p ∧ p ≤ 200) ∧
  ∀ H', Same H H' → Q (.int (numRow fs pts x st nums r)) H'
def spSwept (C CN fR : Addr) : Sp := fun vs H Q _ => ∃ (p sa : Addr) (n : NetP) (x : Int) (st : List Int), vs = [.ref p, .int x, .ref sa, .ref fR] ∧ NetAt C CN H p n ∧ H sa = some (.tup (st.map V.int)) ∧ st.length = n.holds.length ∧ NumOk n x st ∧ ∀ l H', H l = none → Same H H' → H' l = some (.lst ((n.nums x st).map V.int)) → Q (.ref l) H'
/-- a state of a net -/
structure StOk (n : NetP) (st : List Int) : Prop where
  len : st.length = n.holds.length
  inr : ∀ (i : Nat) (h : Hold) (k : Int), n.holds[i]? = some h → st[i]? = some k → inR (frm n.fs h.k).w k = true
def spIsState (C CN : Addr) : Sp := fun vs H Q _ => ∃ (p sa : Addr) (n : NetP) (st : List Int), vs = [.ref p, .ref sa] ∧ NetAt C CN H p n ∧ H sa = some (.tup (st.map V.int)) ∧ StOk n st ∧ ∀ H', Same H H' → Q (.bl true) H'
def spCkState (C CN : Addr) : Sp := fun vs H Q _ => ∃ (p sa : Addr) (n : NetP) (st : List Int), vs = [.ref p, .ref sa] ∧ NetAt C CN H p n ∧ H sa = some (.tup (st.map V.int)) ∧ StOk n st ∧ ∀ H', Same H H' → Q .non H'
def spCkWord (C CN : Addr) : Sp := fun vs H Q _ => ∃ (p : Addr) (n : NetP) (x : Int), vs = [.ref p, .int x] ∧ NetAt C CN H p n ∧ inR (frm n.fs n.en).w x = true ∧ ∀ H', Same H H' → Q .non H'
def NetP.behind (n : NetP) (nums : List Int) : List Int := n.holds.map fun h => nums.getD h.l 0
def spBehind (C CN : Addr) : Sp := fun vs H Q _ => ∃ (p na : Addr) (n : NetP) (nums : List Int), vs = [.ref p, .ref na] ∧ NetAt C CN H p n ∧ H na = some (.lst (nums.map V.int)) ∧ nums.length = n.rows.length ∧ ∀ t H', H t = none → Same H H' → H' t = some (.tup ((n.behind nums).map V.int)) → Q (.ref t) H'
/-- what a turn tells: a new tuple of a new list and a new tuple -/
def TurnOut (H : Hp) (Q : VK) (ns st' : List Int) : Prop := ∀ t l s H', Same H H' → H t = none → H l = none → H s = none → H' t = some (.tup [.ref l, .ref s]) → H' l = some (.lst (ns.map V.int)) → H' s = some (.tup (st'.map V.int)) → Q (.ref t) H'
def spTurnOf (C CN : Addr) : Sp := fun vs H Q _ => ∃ (p sa : Addr) (n : NetP) (x : Int) (st : List Int), vs = [.ref p, .ref sa, .int x] ∧ NetAt C CN H p n ∧ H sa = some (.tup (st.map V.int)) ∧ st.length = n.holds.length ∧ NumOk n x st ∧ TurnOut H Q (n.nums x st) (n.behind (n.nums x st))
def spTurned (C CN : Addr) : Sp := fun vs H Q _ => ∃ (p sa : Addr) (n : NetP) (x : Int) (st : List Int), vs = [.ref p, .ref sa, .int x] ∧ NetAt C CN H p n ∧ H sa = some (.tup (st.map V.int)) ∧ StOk n st ∧ inR (frm n.fs n.en).w x = true ∧ NumOk n x st ∧ TurnOut H Q (n.nums x st) (n.behind (n.nums x st))
section
variable {fl : Addr} {en : Int} {rl hl : Addr} {out : Int} {pl : Addr}
theorem fks_ne : ∀ i j : Fin 6, i ≠ j → ((fks[i.val]'i.isLt) == (fks[j.val]'j.isLt)) = false := by decide +kernel
theorem nl_f : (nflds fl en rl hl out pl).lookup ("form_list" : Str) = some (.ref fl) := by
  unfold nflds
  rw [List.lookup_cons, beq_self_eq_true]
theorem nl_e : (nflds fl en rl hl out pl).lookup ("enters_at" : Str) = some (.int en) := by
  unfold nflds
  rw [List.lookup_cons, show (("enters_at" : Str) == "form_list") = false from fks_ne 1 0 (by decide), List.lookup_cons, beq_self_eq_true]
theorem nl_r : (nflds fl en rl hl out pl).lookup ("row_list" : Str) = some (.ref rl) := by
  unfold nflds
  rw [List.lookup_cons, show (("row_list" : Str) == "form_list") = false from fks_ne 2 0 (by decide), List.lookup_cons, show (("row_list" : Str) == "enters_at") = false from fks_ne 2 1 (by decide), List.lookup_cons, beq_self_eq_true]
theorem nl_h : (nflds fl en rl hl out pl).lookup ("hold_list" : Str) = some (.ref hl) := by
  unfold nflds
  rw [List.lookup_cons, show (("hold_list" : Str) == "form_list") = false from fks_ne 3 0 (by decide), List.lookup_cons, show (("hold_list" : Str) == "enters_at") = false from fks_ne 3 1 (by decide), List.lookup_cons, show (("hold_list" : Str) == "row_list") = false from fks_ne 3 2 (by decide), List.lookup_cons, beq_self_eq_true]
theorem nl_o : (nflds fl en rl hl out pl).lookup ("out_at" : Str) = some (.int out) := by
  unfold nflds
  rw [List.lookup_cons, show (("out_at" : Str) == "form_list") = false from fks_ne 4 0 (by decide), List.lookup_cons, show (("out_at" : Str) == "enters_at") = false from fks_ne 4 1 (by decide), List.lookup_cons, show (("out_at" : Str) == "row_list") = false from fks_ne 4 2 (by decide), List.lookup_cons, show (("out_at" : Str) == "hold_list") = false from fks_ne 4 3 (by decide), List.lookup_cons, beq_self_eq_true]
theorem nl_p : (nflds fl en rl hl out pl).lookup ("point_list" : Str) = some (.ref pl) := by
  unfold nflds
  rw [List.lookup_cons, show (("point_list" : Str) == "form_list") = false from fks_ne 5 0 (by decide), List.lookup_cons, show (("point_list" : Str) == "enters_at") = false from fks_ne 5 1 (by decide), List.lookup_cons, show (("point_list" : Str) == "row_list") = false from fks_ne 5 2 (by decide), List.lookup_cons, show (("point_list" : Str) == "hold_list") = false from fks_ne 5 3 (by decide), List.lookup_cons, show (("point_list" : Str) == "out_at") = false from fks_ne 5 4 (by decide), List.lookup_cons, beq_self_eq_true]
theorem nl_no {x : Str} (h : (fks.map fun k => x == k) = [false, false, false, false, false, false]) : (nflds fl en rl hl out pl).lookup x = none := by
  have e : ∀ i : Nat, (fks.map fun k => x == k)[i]? = [false, false, false, false, false, false][i]? := fun i => by rw [h]
  have h0 : (x == ("form_list" : Str)) = false := Option.some.inj (e 0)
  have h1 : (x == ("enters_at" : Str)) = false := Option.some.inj (e 1)
  have h2 : (x == ("row_list" : Str)) = false := Option.some.inj (e 2)
  have h3 : (x == ("hold_list" : Str)) = false := Option.some.inj (e 3)
  have h4 : (x == ("out_at" : Str)) = false := Option.some.inj (e 4)
  have h5 : (x == ("point_list" : Str)) = false := Option.some.inj (e 5)
  unfold nflds
  rw [List.lookup_cons, h0, List.lookup_cons, h1, List.lookup_cons, h2, List.lookup_cons, h3, List.lookup_cons, h4, List.lookup_cons, h5]
  rfl
end
theorem pts_len (n : NetP) : n.pts.length = n.rows.length := ptsOf_len ..
theorem nums_len (n : NetP) (x : Int) (st : List Int) : (n.nums x st).length = n.rows.length := accL_len ..
theorem frm_at {fs : List FormP} {k : Nat} {f : FormP} (h : fs[k]? = some f) : frm fs k = f := by
  unfold frm
  rw [List.getD_eq_getElem?_getD, h]
  rfl
theorem FsAt.frm {C : Addr} {H : Hp} {vs : List V} {fs : List FormP} (h : FsAt C H vs fs) {k : Nat} (hk : k < fs.length) : ∃ p, vs[k]? = some (.ref p) ∧ FAt C H p (frm fs k) := by
  have e := List.getElem?_eq_getElem hk
  obtain ⟨p, a, b⟩ := h.at e
  exact ⟨p, a, by rw [frm_at e]; exact b⟩
theorem num_big {i : Nat} (h : i ≤ 60) {y : Nat} (l : y < 2 ^ SzN i) : y < 2 ^ 900000 := up l (by unfold SzN; omega)
theorem sumN_p (pts nums : List Int) (a b : Nat) : sumN pts nums a b 1 = nums.getD a 0 * 2 ^ ((if pts.getD b 0 > pts.getD a 0 then pts.getD b 0 else pts.getD a 0) - pts.getD a 0).toNat + nums.getD b 0 * 2 ^ ((if pts.getD b 0 > pts.getD a 0 then pts.getD b 0 else pts.getD a 0) - pts.getD b 0).toNat := by
  unfold sumN
  simp only [Int.one_mul]
theorem sumN_l (pts nums : List Int) (a b : Nat) : sumN pts nums a b (-1) = nums.getD a 0 * 2 ^ ((if pts.getD b 0 > pts.getD a 0 then pts.getD b 0 else pts.getD a 0) - pts.getD a 0).toNat - nums.getD b 0 * 2 ^ ((if pts.getD b 0 > pts.getD a 0 then pts.getD b 0 else pts.getD a 0) - pts.getD b 0).toNat := by
  unfold sumN
  simp only [Int.neg_mul, Int.one_mul, Int.sub_eq_add_neg]
theorem FsAt.butL {C a : Addr} {ys : List V} {H H' : Hp} {vs : List V} {fs : List FormP} (h : FsAt C H vs fs) (s : SameBut a H H') (ha : H a = some (.lst ys)) : FsAt C H' vs fs := by
  induction h with
  | nil => exact .nil
  | cons e _ ih =>
    obtain ⟨d, ho⟩ := e.ob
    exact .cons ⟨⟨d, s _ _ (ne_of ho ha (fun z => nomatch z)) ho⟩, e.wo, e.p0, e.p1⟩ ih
theorem kd_ne (a b : Kd7) (h : a ≠ b) : a.s ≠ b.s := by
  revert h
  cases a <;> cases b <;> first | (intro h; exact absurd rfl h) | (intro _; decide +kernel)
theorem kd_s {a b : Kd7} : decide (V.str a.s = V.str b.s) = decide (a.s = b.s) := by
  by_cases h : a.s = b.s
  · rw [h, decide_eq_true rfl, decide_eq_true rfl]
  · rw [decide_eq_false h, decide_eq_false (fun z => h (V.str.inj z))]
section
variable {P : Program} {w : World} {K : PySem.W.Frag} {mg : Str → Option Value} {base : Heap}
theorem sc_Net_forms : FnScope ["self"] ["self"] (defScope s_Net_forms) := ⟨rfl, rfl, rfl, by decide +kernel, rfl, by decide +kernel, by decide +kernel⟩
theorem ok_Net_forms {f : Addr} {fd : FuncData} {k : Nat} {C CN : Addr} (TN : NTxt K mg CN) (F : Fun K "forms" "Net.forms" s_Net_forms f fd) (z : Zs mg) : FnOk P w K mg base CX0 (k + 1) f fd ["self"] (spFormsM C CN) := by
  refine F.ok sc_Net_forms (fun vs H Q E h => ?_) (fun cdv A outer s H vs Q E hr h => ?_)
  · obtain ⟨p, n, rfl, _⟩ := h
    rfl
  · obtain ⟨p, n, rfl, ⟨ok, dx, fl, rl, hl2, pl, fv, rv, hv, b⟩, q⟩ := h
    refine ⟨_, (pss_one (ps_ret (pe_callTy call_list_of (by rfl) z.list (by decide +kernel) (pa_cons (pe_fld (pv 0) rfl) pa_nil)))), ?_⟩
    refine ⟨_, rfl, p, CN, dx, _, _, rfl, b.ob, TN.cl, TN.n_form_list, nl_f, _, _, rfl, .inl (SqL.of b.fa), fun l hl => ?_⟩
    generalize hG : upd _ l _ = G
    obtain ⟨s, h_l⟩ := upd_gen hG hl
    exact q l _ _ hl s h_l (b.fs.same s)
theorem sc_Net_rows : FnScope ["self"] ["self"] (defScope s_Net_rows) := ⟨rfl, rfl, rfl, by decide +kernel, rfl, by decide +kernel, by decide +kernel⟩
theorem ok_Net_rows {f : Addr} {fd : FuncData} {k : Nat} {C CN : Addr} (TN : NTxt K mg CN) (F : Fun K "rows" "Net.rows" s_Net_rows f fd) (z : Zs mg) : FnOk P w K mg base CX0 (k + 1) f fd ["self"] (spRowsM C CN) := by
  refine F.ok sc_Net_rows (fun vs H Q E h => ?_) (fun cdv A outer s H vs Q E hr h => ?_)
  · obtain ⟨p, n, rfl, _⟩ := h
    rfl
  · obtain ⟨p, n, rfl, ⟨ok, dx, fl, rl, hl2, pl, fv, rv, hv, b⟩, q⟩ := h
    refine ⟨_, (pss_one (ps_ret (pe_callTy call_list_of (by rfl) z.list (by decide +kernel) (pa_cons (pe_fld (pv 0) rfl) pa_nil)))), ?_⟩
    refine ⟨_, rfl, p, CN, dx, _, _, rfl, b.ob, TN.cl, TN.n_row_list, nl_r, _, _, rfl, .inl (SqL.of b.ra), fun l hl => ?_⟩
    generalize hG : upd _ l _ = G
    obtain ⟨s, h_l⟩ := upd_gen hG hl
    exact q l _ _ hl s h_l (b.rs.same s)
theorem sc_Net_holds : FnScope ["self"] ["self"] (defScope s_Net_holds) := ⟨rfl, rfl, rfl, by decide +kernel, rfl, by decide +kernel, by decide +kernel⟩
theorem ok_Net_holds {f : Addr} {fd : FuncData} {k : Nat} {C CN : Addr} (TN : NTxt K mg CN) (F : Fun K "holds" "Net.holds" s_Net_holds f fd) (z : Zs mg) : FnOk P w K mg base CX0 (k + 1) f fd ["self"] (spHoldsM C CN) := by
  refine F.ok sc_Net_holds (fun vs H Q E h => ?_) (fun cdv A outer s H vs Q E hr h => ?_)
  · obtain ⟨p, n, rfl, _⟩ := h
    rfl
  · obtain ⟨p, n, rfl, ⟨ok, dx, fl, rl, hl2, pl, fv, rv, hv, b⟩, q⟩ := h
    refine ⟨_, (pss_one (ps_ret (pe_callTy call_list_of (by rfl) z.list (by decide +kernel) (pa_cons (pe_fld (pv 0) rfl) pa_nil)))), ?_⟩
    refine ⟨_, rfl, p, CN, dx, _, _, rfl, b.ob, TN.cl, TN.n_hold_list, nl_h, _, _, rfl, .inl (SqL.of b.ha), fun l hl => ?_⟩
    generalize hG : upd _ l _ = G
    obtain ⟨s, h_l⟩ := upd_gen hG hl
    exact q l _ _ hl s h_l (b.hs.same s)
theorem sc_Net_points : FnScope ["self"] ["self"] (defScope s_Net_points) := ⟨rfl, rfl, rfl, by decide +kernel, rfl, by decide +kernel, by decide +kernel⟩
theorem ok_Net_points {f : Addr} {fd : FuncData} {k : Nat} {C CN : Addr} (TN : NTxt K mg CN) (F : Fun K "points" "Net.points" s_Net_points f fd) (z : Zs mg) : FnOk P w K mg base CX0 (k + 1) f fd ["self"] (spPtsM C CN) := by
  refine F.ok sc_Net_points (fun vs H Q E h => ?_) (fun cdv A outer s H vs Q E hr h => ?_)
  · obtain ⟨p, n, rfl, _⟩ := h
    rfl
  · obtain ⟨p, n, rfl, ⟨ok, dx, fl, rl, hl2, pl, fv, rv, hv, b⟩, q⟩ := h
    refine ⟨_, (pss_one (ps_ret (pe_callTy call_list_of (by rfl) z.list (by decide +kernel) (pa_cons (pe_fld (pv 0) rfl) pa_nil)))), ?_⟩
    refine ⟨_, rfl, p, CN, dx, _, _, rfl, b.ob, TN.cl, TN.n_point_list, nl_p, _, _, rfl, .inl (SqL.of b.pa), fun l hl => ?_⟩
    generalize hG : upd _ l _ = G
    obtain ⟨s, h_l⟩ := upd_gen hG hl
    exact q l _ hl s h_l
theorem sc_Net_enters : FnScope ["self"] ["self"] (defScope s_Net_enters) := ⟨rfl, rfl, rfl, by decide +kernel, rfl, by decide +kernel, by decide +kernel⟩
theorem ok_Net_enters {f : Addr} {fd : FuncData} {k : Nat} {C CN : Addr} (TN : NTxt K mg CN) (F : Fun K "enters" "Net.enters" s_Net_enters f fd) : FnOk P w K mg base CX0 (k + 1) f fd ["self"] (spEnM C CN) := by
  refine F.ok sc_Net_enters (fun vs H Q E h => ?_) (fun cdv A outer s H vs Q E hr h => ?_)
  · obtain ⟨p, n, rfl, _⟩ := h
    rfl
  · obtain ⟨p, n, rfl, ⟨ok, dx, fl, rl, hl2, pl, fv, rv, hv, b⟩, q⟩ := h
    refine ⟨_, (pss_one (ps_ret (pe_fld (pv 0) rfl))), ?_⟩
    exact ⟨_, rfl, p, CN, dx, _, _, rfl, b.ob, TN.cl, TN.n_enters_at, nl_e, q⟩
end
end E1

namespace E1
open PySem PySem.Spec PyProof.Rows L2

theorem WellAt.ne {H : Hp} {a p : Addr} {c : Int} (h : WellAt H a c) (hp : H p = none) : p ≠ a := fun e => by
  obtain ⟨x, y, z, ha, _⟩ := h
  rw [← e, hp] at ha
  cases ha
theorem WellAt.lst {H : Hp} {a : Addr} {c : Int} (h : WellAt H a c) : ∃ xs, H a = some (.lst xs) := by
  obtain ⟨x, y, z, ha, _⟩ := h
  exact ⟨_, ha⟩
theorem WellAt.nt {H : Hp} {a p : Addr} {c : Int} {xs : List V} (h : WellAt H a c) (hp : H p = some (.tup xs)) : p ≠ a := fun e => by
  obtain ⟨x, y, z, ha, _⟩ := h
  rw [← e, hp] at ha
  cases ha
theorem sevenI {r : Int} (h0 : 0 ≤ r) (h1 : r < 7) : ∃ m : Mn, atI [V.str "down", V.str "up", V.str "in", V.str "out", V.str "half", V.str "even", V.str "far"] r = some (.str m.str) := by
  rcases (by omega : r = 0 ∨ r = 1 ∨ r = 2 ∨ r = 3 ∨ r = 4 ∨ r = 5 ∨ r = 6) with rfl | rfl | rfl | rfl | rfl | rfl | rfl
  · exact ⟨.down, rfl⟩
  · exact ⟨.up, rfl⟩
  · exact ⟨.inn, rfl⟩
  · exact ⟨.out, rfl⟩
  · exact ⟨.half, rfl⟩
  · exact ⟨.even, rfl⟩
  · exact ⟨.far, rfl⟩
theorem endI {r : Int} (h0 : 0 ≤ r) (h1 : r < 2) : ∃ st, atI [V.str "wrap", V.str "stop"] r = some (.str (endS st)) := by
  rcases (by omega : r = 0 ∨ r = 1) with rfl | rfl
  · exact ⟨false, rfl⟩
  · exact ⟨true, rfl⟩
theorem twoI {x y : V} {r : Int} (h0 : 0 ≤ r) (h1 : r < 2) : ∃ v, atI [x, y] r = some v ∧ (v = x ∨ v = y) := by
  rcases (by omega : r = 0 ∨ r = 1) with rfl | rfl
  · exact ⟨x, rfl, .inl rfl⟩
  · exact ⟨y, rfl, .inr rfl⟩
theorem threeI {x y z : V} {r : Int} (h0 : 0 ≤ r) (h1 : r < 3) : ∃ v, atI [x, y, z] r = some v ∧ (v = x ∨ v = y ∨ v = z) := by
  rcases (by omega : r = 0 ∨ r = 1 ∨ r = 2) with rfl | rfl | rfl
  · exact ⟨x, rfl, .inl rfl⟩
  · exact ⟨y, rfl, .inr (.inl rfl)⟩
  · exact ⟨z, rfl, .inr (.inr rfl)⟩
def spLForm : Sp := fun vs H Q _ => ∃ (a : Addr) (fr : Bool) (R c : Int), vs = [.ref a, .bl fr, .int R] ∧ 0 ≤ R ∧ R ≤ 60 ∧ WellAt H a c ∧ 0 ≤ c ∧ c ≤ 10000 ∧ ∀ (f : FormP) (p : Addr) (H' : Hp), f.Ok → (fr = false → f.w ≠ none) → -R - 2 ≤ f.pt → f.pt ≤ R + 2 → SameBut a H H' → WellAt H' a (c + 7) → p ≠ a → H p = none → H' p = some (.tup f.vs) → Q (.ref p) H'
def spLWord : Sp := fun vs H Q _ => ∃ (a p : Addr) (f : FormP) (c : Int), vs = [.ref a, .ref p] ∧ H p = some (.tup f.vs) ∧ f.Ok ∧ WellAt H a c ∧ 0 ≤ c ∧ c ≤ 10000 ∧ ∀ (s : Int) (H' : Hp), inR f.w s = true → s.natAbs < 2 ^ 70 → SameBut a H H' → WellAt H' a (c + 5) → Q (.int s) H'
/-- by how much a row moves the point -/
def Row.by_ : Row → Int → Prop
  | .times _ m _, R => (m : Int) ≤ R
  | .move m _, R => -R ≤ m ∧ m ≤ R
  | _, _ => True
def spLRow : Sp := fun vs H Q _ => ∃ (a : Addr) (fc i hc : Nat) (fr : Bool) (R c : Int), vs = [.ref a, .int fc, .int i, .bl fr, .int R, .int hc] ∧ 1 ≤ fc ∧ fc ≤ 12 ∧ 1 ≤ i ∧ i ≤ 100 ∧ 0 ≤ R ∧ R ≤ 60 ∧ hc ≤ 100 ∧ WellAt H a c ∧ 0 ≤ c ∧ c ≤ 10000 ∧
  ∀ (r : Row) (p : Addr) (H' : Hp), RowOk hc fc i r → r.by_ R → (fr = true → r.small) → SameBut a H H' → WellAt H' a (c + 10) → p ≠ a → H p = none → H' p = some (.tup r.vs) → Q (.ref p) H'
theorem same_free {a p : Addr} {H H' : Hp} {xs : List V} (s : SameBut a H H') (ha : H a = some (.lst xs)) (h : H' p = none) (n : p ≠ a) : H p = none := by
  cases e : H p with
  | none => rfl
  | some o =>
    rw [s _ _ n e] at h
    cases h
section
variable {P : Program} {w : World} {K : PySem.W.Frag} {mg : Str → Option Value} {base : Heap}
theorem sc__law_form : FnScope ["_law_well_here", "_law_free", "_law_reach", "_law_width", "_law_manner"] ["_law_well_here", "_law_free", "_law_reach"] (defScope s__law_form) := ⟨rfl, rfl, rfl, by decide +kernel, rfl, by decide +kernel, by decide +kernel⟩
theorem ok__law_form {f : Addr} {fd : FuncData} (F : Fun K "_law_form" "_law_form" s__law_form f fd) (c__law_draw : Cal P w K mg base 1 "_law_draw" ["_law_well_here", "_law_many"] spDraw) : FnOk P w K mg base CX0 2 f fd ["_law_well_here", "_law_free", "_law_reach"] spLForm := by
  refine F.ok sc__law_form (fun vs H Q E h => ?_) (fun cdv A outer s H vs Q E hr h => ?_)
  · obtain ⟨a, fr, R, c, rfl, _⟩ := h
    rfl
  · obtain ⟨a, fr, R, c, rfl, R0, R1, hw, c0, c1, q⟩ := h
    refine ⟨_, (pss_cons (ps_set (i := 3) sc__law_form.nd rfl (.inl rfl) (pe_ix ix_list (pe_lst (pa_cons (pe_op op_add pe_int (pe_cal c__law_draw hr (pa_cons (pv 0) (pa_cons pe_int pa_nil)))) (pa_cons (pe_op op_add pe_int (pe_cal c__law_draw hr (pa_cons (pv 0) (pa_cons pe_int pa_nil)))) (pa_cons pe_int pa_nil)))) (pe_cal c__law_draw hr (pa_cons (pv 0) (pa_cons pe_int pa_nil))) (fun _ _ => rfl)))
      (C8.pss_cut (ps_if (PW.pt (pw_and (pt_val (pv 1)) (pw_and1 (pt_cmpR op_eq (pe_cal c__law_draw hr (pa_cons (pv 0) (pa_cons pe_int pa_nil))) pe_int (nomark _))))) (pss_one (ps_set (i := 3) sc__law_form.nd rfl (.inl rfl) pe_non)) pss_nil)
      (pss_cons (ps_set (i := 4) sc__law_form.nd rfl (.inl rfl) (pe_ix ix_list (pe_lst (pa_cons pe_str (pa_cons pe_str (pa_cons pe_str (pa_cons pe_str (pa_cons pe_str (pa_cons pe_str (pa_cons pe_str pa_nil)))))))) (pe_cal c__law_draw hr (pa_cons (pv 0) (pa_cons pe_int pa_nil))) (fun _ _ => rfl)))
      (pss_one (ps_ret (pe_tup (pa_cons (pv 3) (pa_cons (pe_op op_sub (pe_op op_sub (pe_cal c__law_draw hr (pa_cons (pv 0) (pa_cons (pe_op op_add (pe_op op_mul pe_int (pv 2)) pe_int) pa_nil))) (pv 2)) pe_int) (pa_cons (pv 4) (pa_cons (pe_ix ix_list (pe_lst (pa_cons pe_str (pa_cons pe_str pa_nil))) (pe_cal c__law_draw hr (pa_cons (pv 0) (pa_cons pe_int pa_nil))) (fun _ _ => rfl)) pa_nil)))))))))), ?_⟩
    refine ⟨_, rfl, a, c, 4, rfl, hw, by omega, by decide, by decide +kernel, fun r1 H1 r10 r11 d1 e1 w1 => ⟨_, _, rfl, rfl, _, rfl, a, c + 1, 63, rfl, w1, by omega, by decide, by decide +kernel, fun r2 H2 r20 r21 d2 e2 w2 => ⟨_, _, rfl, rfl, (by show 3 ≤ sizeLine; decide), fun l3 hl3 => ?_⟩⟩⟩
    have n3 := w2.ne hl3
    have q3 := same_new (o := .lst [V.int (2 + r1), V.int (2 + r2), V.int 64]) hl3
    refine ⟨_, rfl, a, c + 1 + 1, 3, rfl, (w2.same q3), by omega, by decide, by decide +kernel, fun r3 H3 r30 r31 d3 e3 w3 => ?_⟩
    obtain ⟨v3, i3, o3⟩ := threeI (x := V.int (2 + r1)) (y := V.int (2 + r2)) (z := V.int 64) r30 r31
    obtain ⟨y, rfl, y0, y1⟩ : ∃ y : Int, v3 = .int y ∧ 2 ≤ y ∧ y ≤ 64 := by
      rcases o3 with rfl | rfl | rfl
      · exact ⟨_, rfl, by omega, by omega⟩
      · exact ⟨_, rfl, by omega, by omega⟩
      · exact ⟨_, rfl, by omega, by omega⟩
    refine ⟨l3, _, r3, _, rfl, rfl, SqL.of (d3 _ _ n3 upd_same), i3, ?_⟩
    have D3 : SameBut a H H3 := d1.trans (d2.trans ((SameBut.of q3).trans d3))
    clear d1 d2 d3 e1 e2 e3 q3 i3 n3 w1 w2 o3
    refine ⟨fun σ G => ∃ w : Option Int, σ = [some (.ref a), some (.bl fr), some (.int R), some (wV w), none] ∧ WOk w ∧ (fr = false → w ≠ none) ∧ SameBut a H G ∧ WellAt G a (c + 4), ?_, fun σ H4 hM => ?_⟩
    · have ok : WOk (some y) := fun x z => by cases z; exact ⟨y0, y1⟩
      refine ⟨_, rfl, _, rfl, ?_⟩
      cases fr with
      | false => exact iteF ⟨some y, rfl, ok, (fun _ z => nomatch z), D3, w3.mono (by omega)⟩
      | true =>
        refine iteT ⟨_, rfl, a, c + 1 + 1 + 1, 2, rfl, w3, by omega, by decide, by decide +kernel, fun r4 H4 r40 r41 d4 e4 w4 => ⟨rfl, _, rfl, ite2 (fun _ => ?_) (fun _ => ?_)⟩⟩
        · exact ⟨none, rfl, (fun _ z => by cases z), (fun z => nomatch z), D3.trans d4, w4.mono (by omega)⟩
        · exact ⟨some y, rfl, ok, (fun _ z => nomatch z), D3.trans d4, w4.mono (by omega)⟩
    obtain ⟨w, rfl, hwo, hwn, D4, w4⟩ := hM
    clear D3 w3
    refine ⟨(by show 7 ≤ sizeLine; decide), fun l5 hl5 => ?_⟩
    have q5 := same_new (o := .lst [V.str "down", V.str "up", V.str "in", V.str "out", V.str "half", V.str "even", V.str "far"]) hl5
    have n5 := w4.ne hl5
    refine ⟨_, rfl, a, c + 4, 7, rfl, (w4.same q5), by omega, by decide, by decide +kernel, fun r6 H6 r60 r61 d6 e6 w6 => ?_⟩
    obtain ⟨m, hm⟩ := sevenI r60 r61
    refine ⟨l5, _, r6, _, rfl, rfl, SqL.of (d6 _ _ n5 upd_same), hm, ?_⟩
    have D6 : SameBut a H H6 := D4.trans ((SameBut.of q5).trans d6)
    refine ⟨_, rfl, _, rfl, _, rfl, _, _, rfl, rfl, .inl ⟨by decide, by decide⟩, _, _, rfl, rfl, a, c + 4 + 1, 2 * R + 5, rfl, w6, by omega, by omega, Nat.lt_of_le_of_lt (show _ ≤ 1000 by omega) (by decide +kernel), fun r7 H7 r70 r71 d7 e7 w7 => ⟨_, rfl, _, _, rfl, rfl, _, _, rfl, rfl, _, rfl, (by show 2 ≤ sizeLine; decide), fun l8 hl8 => ?_⟩⟩
    have q8 := same_new (o := .lst [V.str "wrap", V.str "stop"]) hl8
    have n8 := w7.ne hl8
    refine ⟨_, rfl, a, c + 4 + 1 + 1, 2, rfl, (w7.same q8), by omega, by decide, by decide +kernel, fun r9 H9 r90 r91 d9 e9 w9 => ?_⟩
    obtain ⟨st, hst⟩ := endI r90 r91
    refine ⟨l8, _, r9, _, rfl, rfl, SqL.of (d9 _ _ n8 upd_same), hst, (by show 4 ≤ sizeLine; decide), fun p hp => ?_⟩
    have D9 : SameBut a H H9 := D6.trans (d7.trans ((SameBut.of q8).trans d9))
    have np := w9.ne hp
    obtain ⟨xs, hxs⟩ := hw.lst
    refine q ⟨w, r7 - R - 2, m, st⟩ p _ ⟨hwo, by show -64 ≤ r7 - R - 2; omega, by show r7 - R - 2 ≤ 64; omega⟩ hwn (by show -R - 2 ≤ r7 - R - 2; omega) (by show r7 - R - 2 ≤ R + 2; omega) (D9.trans (.of (same_new hp))) ((w9.same (same_new hp)).mono (by omega)) np (same_free D9 hxs hp np) upd_same
theorem sc__law_word : FnScope ["_law_well_here", "_law_form_here", "_law_room"] ["_law_well_here", "_law_form_here"] (defScope s__law_word) := ⟨rfl, rfl, rfl, by decide +kernel, rfl, by decide +kernel, by decide +kernel⟩
theorem ok__law_word {f : Addr} {fd : FuncData} (F : Fun K "_law_word" "_law_word" s__law_word f fd) (c__law_draw : Cal P w K mg base 1 "_law_draw" ["_law_well_here", "_law_many"] spDraw) : FnOk P w K mg base CX0 2 f fd ["_law_well_here", "_law_form_here"] spLWord := by
  refine F.ok sc__law_word (fun vs H Q E h => ?_) (fun cdv A outer s H vs Q E hr h => ?_)
  · obtain ⟨a, p, f, c, rfl, _⟩ := h
    rfl
  · obtain ⟨a, p, f, c, rfl, hp, fo, hw, c0, c1, q⟩ := h
    refine ⟨_, (pss_cons (ps_if (pt_cmpR op_isN (pe_ix ix_tup (pv 1) pe_int (fun _ _ => rfl)) pe_non (nomark _)) (pss_one (ps_ret (pe_ix ix_list (pe_lst (pa_cons (pe_op op_sub (pe_cal c__law_draw hr (pa_cons (pv 0) (pa_cons pe_int pa_nil))) pe_int) (pa_cons (pe_op op_sub (pe_cal c__law_draw hr (pa_cons (pv 0) (pa_cons (pe_op op_pow pe_int pe_int) pa_nil))) (pe_op op_pow pe_int pe_int)) pa_nil))) (pe_cal c__law_draw hr (pa_cons (pv 0) (pa_cons pe_int pa_nil))) (fun _ _ => rfl)))) pss_nil)
      (pss_cons (ps_set (i := 2) sc__law_word.nd rfl (.inl rfl) (pe_op op_shlW pe_int (pe_op op_sub (pe_ix ix_tup (pv 1) pe_int (fun _ _ => rfl)) pe_int)))
      (pss_cons (ps_if (pt_cmpR op_eq (pe_cal c__law_draw hr (pa_cons (pv 0) (pa_cons pe_int pa_nil))) pe_int (nomark _)) (pss_one (ps_ret (pe_ix ix_list (pe_lst (pa_cons (pe_op op_sub pe_int (pv 2)) (pa_cons (pe_op op_sub (pv 2) pe_int) pa_nil))) (pe_cal c__law_draw hr (pa_cons (pv 0) (pa_cons pe_int pa_nil))) (fun _ _ => rfl)))) pss_nil)
      (pss_one (ps_ret (pe_op op_sub (pe_op op_mod (pe_op op_add (pe_op op_mulW (pe_cal c__law_draw hr (pa_cons (pv 0) (pa_cons (pe_op op_mul pe_int (pv 2)) pa_nil))) (pe_op op_add pe_int (pe_op op_mul pe_int (pe_cal c__law_draw hr (pa_cons (pv 0) (pa_cons (pe_op op_pow pe_int pe_int) pa_nil)))))) (pe_cal c__law_draw hr (pa_cons (pv 0) (pa_cons pe_int pa_nil)))) (pe_op op_mul pe_int (pv 2))) (pv 2))))))), ?_⟩
    obtain ⟨w, pt, m, st⟩ := f
    have wo := fo.wo
    have np := hw.nt hp
    refine ⟨_, rfl, p, _, 0, wV w, rfl, rfl, SqT.of hp, a0, rfl, _, rfl, ?_⟩
    cases w with
    | none =>
      refine iteT ⟨_, rfl, a, c, 19, rfl, hw, by omega, by decide, by decide +kernel, fun r1 H1 r10 r11 d1 e1 w1 => ⟨_, _, rfl, rfl, _, rfl, _, _, rfl, rfl, ⟨by decide, by decide, by decide⟩, a, c + 1, 10 ^ (12 : Int).toNat, rfl, w1, by omega, by decide, by decide +kernel, fun r2 H2 r20 r21 d2 e2 w2 => ⟨_, _, rfl, rfl, ⟨by decide, by decide, by decide⟩, _, _, rfl, rfl, (by show 2 ≤ sizeLine; decide), fun l hl => ?_⟩⟩⟩
      have n3 := w2.ne hl
      have q3 := same_new (o := .lst [V.int (r1 - 9), V.int (r2 - 10 ^ (11 : Int).toNat)]) hl
      refine ⟨_, rfl, a, c + 1 + 1, 2, rfl, (w2.same q3), by omega, by decide, by decide +kernel, fun r3 H3 r30 r31 d3 e3 w3 => ?_⟩
      obtain ⟨v, i3, o3⟩ := twoI (x := V.int (r1 - 9)) (y := V.int (r2 - 10 ^ (11 : Int).toNat)) r30 r31
      have b1 : ((10 : Int) ^ (12 : Int).toNat) = 1000000000000 := by decide
      have b2 : ((10 : Int) ^ (11 : Int).toNat) = 100000000000 := by decide
      obtain ⟨s, rfl, sb⟩ : ∃ s : Int, v = .int s ∧ s.natAbs < 2 ^ 70 := by
        rcases o3 with rfl | rfl
        · exact ⟨_, rfl, Nat.lt_of_le_of_lt (show _ ≤ 100 by omega) (by decide)⟩
        · refine ⟨_, rfl, Nat.lt_of_le_of_lt (show _ ≤ 2000000000000 by omega) (by decide)⟩
      exact ⟨l, _, r3, _, rfl, rfl, SqL.of (d3 _ _ n3 upd_same), i3, q s _ rfl sb (d1.trans (d2.trans ((SameBut.of q3).trans d3))) (w3.mono (by omega))⟩
    | some y =>
      obtain ⟨y0, y1⟩ := wo y rfl
      have rm : (1 : Int) * 2 ^ (y - 1).toNat = two (y - 1) := Int.one_mul _
      have r0 := two_pos (y - 1)
      have rb : (two (y - 1)).natAbs < 2 ^ 64 := by
        unfold two
        exact two_pow_lt (by omega)
      have fin : ∀ s : Int, lst y ≤ s → s ≤ grt y → inR (some y) s = true ∧ s.natAbs < 2 ^ 70 := fun s h0 h1 => by
        refine ⟨by show (decide (lst y ≤ s) && decide (s ≤ grt y)) = true; rw [decide_eq_true h0, decide_eq_true h1]; rfl, ?_⟩
        unfold lst grt at *
        have e : (2 : Nat) ^ 70 = 2 ^ 64 * 64 := by decide
        rw [e]
        generalize (2 : Nat) ^ 64 = N at *
        omega
      refine iteF ⟨_, rfl, p, _, 0, .int y, rfl, rfl, SqT.of hp, a0, _, _, rfl, rfl, _, _, rfl, rfl, ?_, ?_⟩
      · have e : y - 1 = (((y - 1).toNat : Nat) : Int) := by omega
        rw [e]
        exact shl_ok (n := 1) (by decide) (by omega)
      dsimp only
      rw [rm]
      have eg : grt y = two (y - 1) - 1 := rfl
      have el : lst y = -(two (y - 1)) := rfl
      refine ⟨_, rfl, a, c, 4, rfl, hw, by omega, by decide, by decide +kernel, fun r1 H1 r10 r11 d1 e1 w1 => ⟨rfl, _, rfl, ite2 (fun _ => ?_) (fun _ => ?_)⟩⟩
      · refine ⟨_, rfl, _, _, rfl, rfl, _, rfl, _, _, rfl, rfl, (by show 2 ≤ sizeLine; decide), fun l hl => ?_⟩
        have n3 := w1.ne hl
        have q3 := same_new (o := .lst [V.int (0 - two (y - 1)), V.int (two (y - 1) - 1)]) hl
        refine ⟨_, rfl, a, c + 1, 2, rfl, (w1.same q3), by omega, by decide, by decide +kernel, fun r3 H3 r30 r31 d3 e3 w3 => ?_⟩
        obtain ⟨v, i3, o3⟩ := twoI (x := V.int (0 - two (y - 1))) (y := V.int (two (y - 1) - 1)) r30 r31
        obtain ⟨s, rfl, s0, s1⟩ : ∃ s : Int, v = .int s ∧ lst y ≤ s ∧ s ≤ grt y := by
          rcases o3 with rfl | rfl
          · exact ⟨_, rfl, by omega, by omega⟩
          · exact ⟨_, rfl, by omega, by omega⟩
        obtain ⟨g1, g2⟩ := fin s s0 s1
        exact ⟨l, _, r3, _, rfl, rfl, SqL.of (d3 _ _ n3 upd_same), i3, q s _ g1 g2 (d1.trans ((SameBut.of q3).trans d3)) (w3.mono (by omega))⟩
      · have bb : (2 * two (y - 1)).natAbs < 2 ^ 66 := by
          have e : (2 : Nat) ^ 66 = 2 ^ 64 * 4 := by decide
          rw [e]
          generalize (2 : Nat) ^ 64 = N at *
          omega
        refine ⟨_, rfl, _, rfl, _, _, rfl, rfl, .inl ⟨by decide, by decide⟩, a, c + 1, 2 * two (y - 1), rfl, w1, by omega, by omega, up bb (by decide), fun r2 H2 r20 r21 d2 e2 w2 => ?_⟩
        refine ⟨_, rfl, _, _, rfl, rfl, ⟨by decide, by decide, by decide⟩, a, c + 1 + 1, 10 ^ (5 : Int).toNat, rfl, w2, by omega, by decide, by decide +kernel, fun r3 H3 r30 r31 d3 e3 w3 => ?_⟩
        have b5 : ((10 : Int) ^ (5 : Int).toNat) = 100000 := by decide
        have rb2 : r2.natAbs < 2 ^ 66 := by omega
        refine ⟨_, _, rfl, rfl, .inl ⟨by decide, by decide⟩, _, _, rfl, rfl, _, _, rfl, rfl, wide_mul rb2 (show (1 + 2 * r3).natAbs < 2 ^ 30 from Nat.lt_of_le_of_lt (show _ ≤ 1000000 by omega) (by decide)) (by decide) (by decide) (by decide), ?_⟩
        refine ⟨_, rfl, a, c + 1 + 1 + 1, 7, rfl, w3, by omega, by decide, by decide +kernel, fun r4 H4 r40 r41 d4 e4 w4 => ⟨_, _, rfl, rfl, _, rfl, _, _, rfl, rfl, .inl ⟨by decide, by decide⟩, _, _, rfl, rfl, (by show 0 < 2 * two (y - 1); omega), _, rfl, _, _, rfl, rfl, ?_⟩⟩
        have m0 := Int.emod_nonneg (r2 * (1 + 2 * r3) + r4) (show 2 * two (y - 1) ≠ 0 by omega)
        have m1 := Int.emod_lt_of_pos (r2 * (1 + 2 * r3) + r4) (show 0 < 2 * two (y - 1) by omega)
        obtain ⟨g1, g2⟩ := fin ((r2 * (1 + 2 * r3) + r4) % (2 * two (y - 1)) - two (y - 1)) (by omega) (by omega)
        exact q _ _ g1 g2 (d1.trans (d2.trans (d3.trans d4))) (w4.mono (by omega))
theorem sc__law_row : FnScope ["_law_well_here", "_law_count", "_law_at", "_law_free", "_law_reach", "_law_held", "_law_sort", "_law_here", "_law_there", "_law_factor"] ["_law_well_here", "_law_count", "_law_at", "_law_free", "_law_reach", "_law_held"] (defScope s__law_row) := ⟨rfl, rfl, rfl, by decide +kernel, rfl, by decide +kernel, by decide +kernel⟩
theorem ok__law_row {f : Addr} {fd : FuncData} (F : Fun K "_law_row" "_law_row" s__law_row f fd) (c__law_draw : Cal P w K mg base 1 "_law_draw" ["_law_well_here", "_law_many"] spDraw) : FnOk P w K mg base CX0 2 f fd ["_law_well_here", "_law_count", "_law_at", "_law_free", "_law_reach", "_law_held"] spLRow := by
  refine F.ok sc__law_row (fun vs H Q E h => ?_) (fun cdv A outer s H vs Q E hr h => ?_)
  · obtain ⟨a, fc, i, hc, fr, R, c, rfl, _⟩ := h
    rfl
  · obtain ⟨a, fc, i, hc, fr, R, c, rfl, fc0, fc1, i0, i1, R0, R1, hc1, hw, c0, c1, q⟩ := h
    refine ⟨_, (pss_cons (ps_set (i := 6) sc__law_row.nd rfl (.inl rfl) (pe_cal c__law_draw hr (pa_cons (pv 0) (pa_cons pe_int pa_nil))))
      (pss_cons (ps_set (i := 7) sc__law_row.nd rfl (.inl rfl) (pe_ix ix_list (pe_lst (pa_cons (pe_op op_sub (pv 2) pe_int) (pa_cons (pe_cal c__law_draw hr (pa_cons (pv 0) (pa_cons (pv 2) pa_nil))) pa_nil))) (pe_cal c__law_draw hr (pa_cons (pv 0) (pa_cons pe_int pa_nil))) (fun _ _ => rfl)))
      (pss_cons (ps_set (i := 8) sc__law_row.nd rfl (.inl rfl) (pe_cal c__law_draw hr (pa_cons (pv 0) (pa_cons (pv 2) pa_nil))))
      (pss_cons (ps_if (pt_cmpR op_eq (pv 6) pe_int (nomark _)) (pss_one (ps_ret (pe_tup (pa_cons pe_str (pa_cons (pv 7) (pa_cons (pv 8) pa_nil)))))) pss_nil)
      (pss_cons (ps_if (pt_cmpR op_eq (pv 6) pe_int (nomark _)) (pss_one (ps_ret (pe_tup (pa_cons pe_str (pa_cons (pv 7) (pa_cons (pv 8) pa_nil)))))) pss_nil)
      (pss_cons (ps_if (pt_cmpR op_eq (pv 6) pe_int (nomark _)) (pss_one (ps_ret (pe_tup (pa_cons pe_str (pa_cons (pe_op op_sub (pe_cal c__law_draw hr (pa_cons (pv 0) (pa_cons (pe_op op_add (pe_op op_mul pe_int (pv 4)) pe_int) pa_nil))) (pv 4)) (pa_cons (pv 7) pa_nil)))))) pss_nil)
      (pss_cons (ps_if (pt_cmpR op_eq (pv 6) pe_int (nomark _)) (pss_one (ps_ret (pe_tup (pa_cons pe_str (pa_cons (pe_cal c__law_draw hr (pa_cons (pv 0) (pa_cons (pv 1) pa_nil))) (pa_cons (pv 7) pa_nil)))))) pss_nil)
      (C8.pss_cut (ps_if (PW.pt (pw_and (pt_cmpR op_eq (pv 6) pe_int (nomark _)) (pw_and1 (pt_cmpR op_gt (pv 5) pe_int (nomark _))))) (pss_one (ps_ret (pe_tup (pa_cons pe_str (pa_cons (pe_cal c__law_draw hr (pa_cons (pv 0) (pa_cons (pv 5) pa_nil))) pa_nil))))) pss_nil)
      (pss_cons (ps_if (pt_cmpR op_eq (pv 6) pe_int (nomark _)) (pss_one (ps_ret (pe_tup (pa_cons pe_str pa_nil)))) pss_nil)
      (pss_cons (ps_set (i := 9) sc__law_row.nd rfl (.inl rfl) (pe_op op_sub (pe_cal c__law_draw hr (pa_cons (pv 0) (pa_cons pe_int pa_nil))) pe_int))
      (C8.pss_cut (ps_if (PW.pt (pw_and (pt_not (pt_val (pv 3))) (pw_and1 (pt_cmpR op_eq (pe_cal c__law_draw hr (pa_cons (pv 0) (pa_cons pe_int pa_nil))) pe_int (nomark _))))) (pss_one (ps_set (i := 9) sc__law_row.nd rfl (.inl rfl) (pe_op op_mulW (pe_op op_mod (pe_op op_add (pe_op op_mulW (pe_cal c__law_draw hr (pa_cons (pv 0) (pa_cons (pe_op op_pow pe_int pe_int) pa_nil))) (pe_op op_add pe_int (pe_op op_mul pe_int (pe_cal c__law_draw hr (pa_cons (pv 0) (pa_cons (pe_op op_pow pe_int pe_int) pa_nil)))))) pe_int) (pe_op op_pow pe_int pe_int)) (pe_op op_sub pe_int (pe_op op_mul pe_int (pe_op op_mod (pv 9) pe_int)))))) pss_nil)
      (pss_one (ps_ret (pe_tup (pa_cons pe_str (pa_cons (pv 9) (pa_cons (pe_cal c__law_draw hr (pa_cons (pv 0) (pa_cons (pe_op op_add (pv 4) pe_int) pa_nil))) (pa_cons (pv 7) pa_nil)))))))))))))))))), ?_⟩
    obtain ⟨wxs, hwx⟩ := hw.lst
    have fin : ∀ (r : Row) (G : Hp), SameBut a H G → WellAt G a (c + 9) → RowOk hc fc i r → r.by_ R → (fr = true → r.small) → ∀ p, G p = none → Q (.ref p) (upd G p (.tup r.vs)) := fun r G sb wl ok by_ sm p hp =>
      q r p _ ok by_ sm (sb.trans (.of (same_new hp))) ((wl.same (same_new hp)).mono (by omega)) (wl.ne hp) (same_free sb hwx hp (wl.ne hp)) upd_same
    refine ⟨_, rfl, a, c, 8, rfl, hw, by omega, by decide, by decide +kernel, fun r1 H1 r10 r11 d1 e1 w1 => ⟨_, rfl, _, _, rfl, rfl, _, rfl, _, rfl, a, c + 1, (i : Int), rfl, w1, by omega, by omega, Nat.lt_of_le_of_lt (show _ ≤ 1000 by omega) (by decide +kernel), fun r2 H2 r20 r21 d2 e2 w2 => ⟨(by show 2 ≤ sizeLine; decide), fun l3 hl3 => ?_⟩⟩⟩
    have n3 := w2.ne hl3
    have q3 := same_new (o := .lst [V.int ((i : Int) - 1), V.int r2]) hl3
    refine ⟨_, rfl, a, c + 1 + 1, 2, rfl, (w2.same q3), by omega, by decide, by decide +kernel, fun r3 H3 r30 r31 d3 e3 w3 => ?_⟩
    obtain ⟨v3, i3, o3⟩ := twoI (x := V.int ((i : Int) - 1)) (y := V.int r2) r30 r31
    obtain ⟨hn, rfl, hn1⟩ : ∃ n : Nat, v3 = .int (n : Int) ∧ n < i := by
      rcases o3 with rfl | rfl
      · exact ⟨i - 1, by congr 1; omega, by omega⟩
      · exact ⟨r2.toNat, by congr 1; omega, by omega⟩
    refine ⟨l3, _, r3, _, rfl, rfl, SqL.of (d3 _ _ n3 upd_same), i3, ?_⟩
    have D3 : SameBut a H H3 := d1.trans (d2.trans ((SameBut.of q3).trans d3))
    clear d1 d2 d3 e1 e2 e3 q3 i3 n3 w1 w2 o3
    refine ⟨_, rfl, _, rfl, a, c + 1 + 1 + 1, (i : Int), rfl, w3, by omega, by omega, Nat.lt_of_le_of_lt (show _ ≤ 1000 by omega) (by decide +kernel), fun r4 H4 r40 r41 d4 e4 w4 => ?_⟩
    obtain ⟨tn, rfl⟩ : ∃ n : Nat, r4 = (n : Int) := ⟨r4.toNat, by omega⟩
    have tn1 : tn < i := by omega
    have D4 := D3.trans d4
    have W4 : WellAt H4 a (c + 4) := w4.mono (by omega)
    clear D3 d4 w3 w4 e4 r40 r41
    refine ⟨_, rfl, rfl, _, rfl, ite2 (fun _ => ?_) (fun k0 => ?_)⟩
    · exact ⟨_, rfl, _, rfl, (by show 3 ≤ sizeLine; decide), fun p hp => fin (.plus hn tn) _ D4 (W4.mono (by omega)) ⟨hn1, tn1⟩ trivial (fun _ => trivial) p hp⟩
    refine ⟨_, rfl, rfl, _, rfl, ite2 (fun _ => ?_) (fun k1 => ?_)⟩
    · exact ⟨_, rfl, _, rfl, (by show 3 ≤ sizeLine; decide), fun p hp => fin (.less hn tn) _ D4 (W4.mono (by omega)) ⟨hn1, tn1⟩ trivial (fun _ => trivial) p hp⟩
    refine ⟨_, rfl, rfl, _, rfl, ite2 (fun _ => ?_) (fun k2 => ?_)⟩
    · refine ⟨_, rfl, _, rfl, _, _, rfl, rfl, .inl ⟨by decide, by decide⟩, _, _, rfl, rfl, a, c + 4, 2 * R + 1, rfl, W4, by omega, by omega, Nat.lt_of_le_of_lt (show _ ≤ 1000 by omega) (by decide +kernel), fun r5 H5 r50 r51 d5 e5 w5 => ⟨_, rfl, _, _, rfl, rfl, _, rfl, (by show 3 ≤ sizeLine; decide), fun p hp => ?_⟩⟩
      exact fin (.move (r5 - R) hn) _ (D4.trans d5) (w5.mono (by omega)) ⟨by omega, hn1⟩ ⟨by omega, by omega⟩ (fun _ => trivial) p hp
    refine ⟨_, rfl, rfl, _, rfl, ite2 (fun _ => ?_) (fun k3 => ?_)⟩
    · refine ⟨_, rfl, _, rfl, a, c + 4, (fc : Int), rfl, W4, by omega, by omega, Nat.lt_of_le_of_lt (show _ ≤ 1000 by omega) (by decide +kernel), fun r5 H5 r50 r51 d5 e5 w5 => ⟨_, rfl, (by show 3 ≤ sizeLine; decide), fun p hp => ?_⟩⟩
      obtain ⟨fn, rfl⟩ : ∃ n : Nat, r5 = (n : Int) := ⟨r5.toNat, by omega⟩
      exact fin (.keep fn hn) _ (D4.trans d5) (w5.mono (by omega)) ⟨by omega, hn1⟩ trivial (fun _ => trivial) p hp
    refine ⟨fun σ G => σ = [some (.ref a), some (.int fc), some (.int i), some (.bl fr), some (.int R), some (.int hc), some (.int r1), some (.int hn), some (.int tn), none] ∧ G = H4, ?_, fun σ G hM => ?_⟩
    · refine ⟨_, rfl, rfl, _, rfl, ite2 (fun _ => ?_) (fun k4 => ⟨rfl, rfl⟩)⟩
      refine ⟨_, rfl, _, _, rfl, rfl, _, rfl, ite2 (fun k5 => ?_) (fun _ => ⟨rfl, rfl⟩)⟩
      have hc0 : 0 < (hc : Int) := toB k5
      refine ⟨_, rfl, _, rfl, a, c + 4, (hc : Int), rfl, W4, by omega, by omega, Nat.lt_of_le_of_lt (show _ ≤ 1000 by omega) (by decide +kernel), fun r5 H5 r50 r51 d5 e5 w5 => ⟨(by show 2 ≤ sizeLine; decide), fun p hp => ?_⟩⟩
      obtain ⟨kn, rfl⟩ : ∃ n : Nat, r5 = (n : Int) := ⟨r5.toNat, by omega⟩
      exact fin (.old kn) _ (D4.trans d5) (w5.mono (by omega)) (show kn < hc by omega) trivial (fun _ => trivial) p hp
    obtain ⟨rfl, rfl⟩ := hM
    refine ⟨_, rfl, rfl, _, rfl, ite2 (fun _ => ?_) (fun k5 => ?_)⟩
    · exact ⟨(by show 1 ≤ sizeLine; decide), fun p hp => fin .inn _ D4 (W4.mono (by omega)) trivial trivial (fun _ => trivial) p hp⟩
    refine ⟨_, rfl, a, c + 4, 19, rfl, W4, by omega, by decide, by decide +kernel, fun r5 H5 r50 r51 d5 e5 w5 => ⟨_, _, rfl, rfl, ?_⟩⟩
    refine ⟨fun σ G => ∃ F : Int, F.natAbs < 9223372036854775808 ∧ (fr = true → F.natAbs ≤ 9) ∧ σ = [some (.ref a), some (.int fc), some (.int i), some (.bl fr), some (.int R), some (.int hc), some (.int r1), some (.int hn), some (.int tn), some (.int F)] ∧ SameBut a H G ∧ WellAt G a (c + 8), ?_, fun σ G hM => ?_⟩
    · refine ⟨_, rfl, _, rfl, ?_⟩
      cases fr with
      | true => exact iteF ⟨r5 - 9, by omega, (fun _ => by omega), rfl, D4.trans d5, w5.mono (by omega)⟩
      | false =>
        refine iteT ⟨_, rfl, a, c + 4 + 1, 3, rfl, w5, by omega, by decide, by decide +kernel, fun r6 H6 r60 r61 d6 e6 w6 => ⟨rfl, _, rfl, ite2 (fun _ => ?_) (fun _ => ⟨r5 - 9, by omega, (fun z => nomatch z), rfl, (D4.trans d5).trans d6, w6.mono (by omega)⟩)⟩⟩
        have b63 : ((2 : Int) ^ (63 : Int).toNat) = 9223372036854775808 := by decide
        have b5 : ((10 : Int) ^ (5 : Int).toNat) = 100000 := by decide
        refine ⟨_, rfl, _, _, rfl, rfl, ⟨by decide, by decide, by decide⟩, a, c + 4 + 1 + 1, 2 ^ (63 : Int).toNat, rfl, w6, by omega, by decide, by decide +kernel, fun r7 H7 r70 r71 d7 e7 w7 => ?_⟩
        refine ⟨_, rfl, _, _, rfl, rfl, ⟨by decide, by decide, by decide⟩, a, c + 4 + 1 + 1 + 1, 10 ^ (5 : Int).toNat, rfl, w7, by omega, by decide, by decide +kernel, fun r8 H8 r80 r81 d8 e8 w8 => ?_⟩
        rw [b63] at r71
        rw [b5] at r81
        refine ⟨_, _, rfl, rfl, .inl ⟨by decide, by decide⟩, _, _, rfl, rfl, _, _, rfl, rfl, wide_mul (show r7.natAbs < 2 ^ 64 from Nat.lt_of_le_of_lt (show _ ≤ 9223372036854775808 by omega) (by decide)) (show (1 + 2 * r8).natAbs < 2 ^ 30 from Nat.lt_of_le_of_lt (show _ ≤ 1000000 by omega) (by decide)) (by decide) (by decide) (by decide), ?_⟩
        refine ⟨_, _, rfl, rfl, _, _, rfl, rfl, ⟨by decide, by decide, by decide⟩, _, _, rfl, rfl, (by show (0 : Int) < 2 ^ (63 : Int).toNat; decide), _, rfl, _, _, rfl, rfl, (by show (0 : Int) < 2; decide), _, _, rfl, rfl, .inl ⟨by decide, by decide⟩, _, _, rfl, rfl, _, _, rfl, rfl, ?_, ?_⟩
        · refine wide_mul (show _ < 2 ^ 64 from ?_) (show _ < 2 ^ 30 from ?_) (by decide) (by decide) (by decide)
          · refine Nat.lt_of_lt_of_le (m := 9223372036854775808) ?_ (by decide)
            have m0 := Int.emod_nonneg (r7 * (1 + 2 * r8) + 1) (show ((2 : Int) ^ (63 : Int).toNat) ≠ 0 by decide)
            have m1 := Int.emod_lt_of_pos (r7 * (1 + 2 * r8) + 1) (show (0 : Int) < 2 ^ (63 : Int).toNat by decide)
            rw [b63] at m0 m1 ⊢
            omega
          · exact Nat.lt_of_le_of_lt (show _ ≤ 10 by omega) (by decide)
        · refine ⟨_, ?_, (fun z => nomatch z), rfl, (((D4.trans d5).trans d6).trans d7).trans d8, w8.mono (by omega)⟩
          have m0 := Int.emod_nonneg (r7 * (1 + 2 * r8) + 1) (show ((2 : Int) ^ (63 : Int).toNat) ≠ 0 by decide)
          have m1 := Int.emod_lt_of_pos (r7 * (1 + 2 * r8) + 1) (show (0 : Int) < 2 ^ (63 : Int).toNat by decide)
          rw [b63] at m0 m1 ⊢
          generalize (r7 * (1 + 2 * r8) + 1) % 9223372036854775808 = u at *
          rcases (by omega : (r5 - 9) % 2 = 0 ∨ (r5 - 9) % 2 = 1) with e | e
          · rw [e]
            omega
          · rw [e]
            omega
    obtain ⟨F, hF, hFs, rfl, D8, w8⟩ := hM
    refine ⟨_, rfl, _, rfl, _, rfl, _, _, rfl, rfl, a, c + 8, R + 1, rfl, w8, by omega, by omega, Nat.lt_of_le_of_lt (show _ ≤ 1000 by omega) (by decide +kernel), fun r9 H9 r90 r91 d9 e9 w9 => ⟨_, rfl, (by show 4 ≤ sizeLine; decide), fun p hp => ?_⟩⟩
    obtain ⟨mn, rfl⟩ : ∃ n : Nat, r9 = (n : Int) := ⟨r9.toNat, by omega⟩
    exact fin (.times F mn hn) _ (D8.trans d9) (w9.mono (by omega)) ⟨hF, by omega, hn1⟩ (show (mn : Int) ≤ R by omega) hFs p hp
end
end E1

namespace E1
open PySem PySem.Spec PyProof.Rows L2

theorem TsAt.push {H : Hp} {l p : Addr} {vs xs : List V} {xss : List (List V)} (hl : H l = some (.lst vs)) (t : TsAt H vs xss) (hp : H p = some (.tup xs)) : TsAt (upd H l (.lst (vs ++ [.ref p]))) (vs ++ [.ref p]) (xss ++ [xs]) := by
  refine TsAt.app (t.but SameBut.upd hl) (.cons ?_ .nil)
  rw [upd_ne (ne_of hp hl (fun z => nomatch z))]
  exact hp
def BegOk (hc : Nat) : Row → Prop
  | .inn => True
  | .old k => k < hc
  | _ => False
def spLBegin : Sp := fun vs H Q _ => ∃ (a : Addr) (hc : Nat) (c : Int), vs = [.ref a, .int hc] ∧ hc ≤ 3 ∧ WellAt H a c ∧ 0 ≤ c ∧ c ≤ 10000 ∧
  ∀ (rows : List Row) (l : Addr) (H' : Hp), (∀ r ∈ rows, BegOk hc r) → 1 ≤ rows.length → rows.length ≤ 6 → SameBut a H H' → WellAt H' a (c + 20) → l ≠ a → H l = none → TL7 H' l (rows.map Row.vs) → Q (.ref l) H'
/-- but for two -/
def SameBut2 (a l : Addr) (H H' : Hp) : Prop := ∀ b o, b ≠ a → b ≠ l → H b = some o → H' b = some o
theorem SameBut2.trans {a l : Addr} {H H1 H2 : Hp} (x : SameBut2 a l H H1) (y : SameBut2 a l H1 H2) : SameBut2 a l H H2 := fun b o n m e => y b o n m (x b o n m e)
theorem SameBut2.refl (a l : Addr) (H : Hp) : SameBut2 a l H H := fun _ _ _ _ e => e
theorem SameBut2.one {a l : Addr} {H H' : Hp} (s : SameBut a H H') : SameBut2 a l H H' := fun b o n _ e => s b o n e
theorem SameBut2.two {a l : Addr} {H H' : Hp} (s : SameBut l H H') : SameBut2 a l H H' := fun b o _ m e => s b o m e
theorem SameBut2.of {a l : Addr} {H H' : Hp} (s : Same H H') : SameBut2 a l H H' := fun b o _ _ e => s b o e
def MixRow (n0 : Nat) (M : Int) : Row → Prop
  | .times f m a => a < n0 ∧ (m : Int) ≤ M ∧ f.natAbs ≤ 9
  | .plus _ _ => True
  | .less _ _ => True
  | _ => False
def spLMixed : Sp := fun vs H Q _ => ∃ (a l : Addr) (rows : List Row) (M c : Int), vs = [.ref a, .ref l, .int M] ∧ TL7 H l (rows.map Row.vs) ∧ l ≠ a ∧ 0 ≤ M ∧ M ≤ 6 ∧ 1 ≤ rows.length ∧ rows.length ≤ 6 ∧ WellAt H a c ∧ 0 ≤ c ∧ c ≤ 10000 ∧
  ∀ (ex : List Row) (last : Nat) (H' : Hp), (∀ r ∈ ex, MixRow rows.length M r) → (∀ i r, (rows ++ ex)[i]? = some r → rows.length ≤ i → ∀ hc fc, RowOk hc fc i r) → last < (rows ++ ex).length → ex.length ≤ 10 → SameBut2 a l H H' → WellAt H' a (c + 20) → TL7 H' l ((rows ++ ex).map Row.vs) → Q (.int last) H'
def spLLink (K : PySem.W.Frag) : Sp := fun vs H Q _ => ∃ (a l : Addr) (rows : List Row) (kd last : Nat) (c : Int), vs = [.ref a, .ref l, .int kd, .int last] ∧ TL7 H l (rows.map Row.vs) ∧ l ≠ a ∧ last < rows.length ∧ rows.length ≤ 50 ∧ WellAt H a c ∧ 0 ≤ c ∧ c ≤ 10000 ∧
  ∀ (ex : List Row) (j x : Nat) (H' : Hp), (ex = [] ∨ ex = [.keep kd x] ∧ x < rows.length) → (∃ y, (rows ++ ex)[j]? = some (.keep kd y)) → SameBut2 a l H H' → WellAt H' a (c + 5) → TL7 H' l ((rows ++ ex).map Row.vs) → Q (.int j) H'
theorem range_snoc {β : Type} (f : Nat → β) (i : Nat) : (List.range (i + 1)).map f = (List.range i).map f ++ [f i] := by
  rw [List.range_succ, List.map_append]
  rfl
theorem snoc_at {rows ex : List Row} {r r' : Row} {i : Nat} (h : (rows ++ (ex ++ [r']))[i]? = some r) : (rows ++ ex)[i]? = some r ∨ (i = (rows ++ ex).length ∧ r = r') := by
  rw [← List.append_assoc] at h
  by_cases c : i < (rows ++ ex).length
  · rw [List.getElem?_append_left c] at h
    exact .inl h
  · rw [List.getElem?_append_right (by omega)] at h
    have : i - (rows ++ ex).length = 0 := by
      have := (List.getElem?_eq_some_iff.mp h).1
      simp only [List.length_singleton] at this
      omega
    rw [this] at h
    refine .inr ⟨by omega, (Option.some.inj h).symm⟩
section
variable {P : Program} {w : World} {K : PySem.W.Frag} {mg : Str → Option Value} {base : Heap}
theorem sc__law_begin : FnScope ["_law_well_here", "_law_held", "_law_k", "_law_made_here", "_law_at"] ["_law_well_here", "_law_held"] (defScope s__law_begin) := ⟨rfl, rfl, rfl, by decide +kernel, rfl, by decide +kernel, by decide +kernel⟩
theorem ok__law_begin {f : Addr} {fd : FuncData} (F : Fun K "_law_begin" "_law_begin" s__law_begin f fd) (z : Zs mg) (c__law_draw : Cal P w K mg base 1 "_law_draw" ["_law_well_here", "_law_many"] spDraw) : FnOk P w K mg base CX0 2 f fd ["_law_well_here", "_law_held"] spLBegin := by
  refine F.ok sc__law_begin (fun vs H Q E h => ?_) (fun cdv A outer s H vs Q E hr h => ?_)
  · obtain ⟨a, hc, c, rfl, _⟩ := h
    rfl
  · obtain ⟨a, hc, c, rfl, hc3, hw, c0, c1, q⟩ := h
    refine ⟨_, (pss_cons (ps_if (pt_cmpR op_eq (pe_cal c__law_draw hr (pa_cons (pv 0) (pa_cons pe_int pa_nil))) pe_int (nomark _)) (pss_one (ps_ret (pe_op op_cat (pe_lst (pa_cons (pe_tup (pa_cons pe_str pa_nil)) pa_nil)) (pe_lc (own := [("_law_k", 2)]) (g := gName 2) (tt := tYes) (te := (tTup (tCons (tC (.str "old")) (tCons (tVar 2) tNil)))) (by rfl) sc__law_begin.nd (pi_range1 (by rfl) z.range (pa_cons (pv 1) pa_nil)) (blkOk_by (own := [("_law_k", 2)]) (N := ["_law_well_here", "_law_held", "_law_k", "_law_made_here", "_law_at"]) (sc := defScope s__law_begin) (by decide +kernel)) (fun _ _ _ _ _ => by exact (pg_name (i := 2) sc__law_begin.nd rfl (.inl rfl))) (fun _ _ _ _ _ => by exact pts_nil) (fun _ _ _ _ _ => by exact (pe_tup (pa_cons pe_str (pa_cons (pv 2) pa_nil)))))))) pss_nil)
      (pss_cons (ps_set (i := 3) sc__law_begin.nd rfl (.inl rfl) (pe_lst pa_nil))
      (pss_cons (ps_for PassesOwn.never rfl (pi_range1 (by rfl) z.range (pa_cons (pe_op op_add pe_int (pe_cal c__law_draw hr (pa_cons (pv 0) (pa_cons (pe_op op_add (pv 1) pe_int) pa_nil)))) pa_nil)) (pg_name (i := 2) sc__law_begin.nd rfl (.inl rfl)) (pss_cons (ps_set (i := 4) sc__law_begin.nd rfl (.inl rfl) (pe_cal c__law_draw hr (pa_cons (pv 0) (pa_cons (pe_op op_add (pv 1) pe_int) pa_nil))))
      (pss_one (ps_expr (pe_bm PySem.F.plainAttrs_list PySem.F.slot_list_append PySem.F.type_list_append mt_append (pv 3) (pa_cons (pe_ix ix_list (pe_lst (pa_cons (pe_tup (pa_cons pe_str pa_nil)) (pa_cons (pe_tup (pa_cons pe_str (pa_cons (pe_op op_sub (pv 4) pe_int) pa_nil))) pa_nil))) (pe_callTy call_int1 (by rfl) z.int (by decide +kernel) (pa_cons (pe_cmpR op_gt (pv 4) pe_int (nomark _)) pa_nil)) (fun _ _ => rfl)) pa_nil))))))
      (pss_one (ps_ret (pv 3)))))), ?_⟩
    obtain ⟨wxs, hwx⟩ := hw.lst
    refine ⟨_, rfl, a, c, 3, rfl, hw, by omega, by decide, by decide +kernel, fun r1 H1 r10 r11 d1 e1 w1 => ⟨rfl, _, rfl, ite2 (fun _ => ?_) (fun _ => ?_)⟩⟩
    · refine ⟨(by show 1 ≤ sizeLine; decide), fun t ht => ?_⟩
      generalize hG : upd _ t _ = G1
      obtain ⟨s1, h_t⟩ := upd_gen hG ht
      refine ⟨(by show 1 ≤ sizeLine; decide), fun l1 hl1 => ?_⟩
      generalize hG2 : upd _ l1 _ = G2
      obtain ⟨s2, h_l1⟩ := upd_gen hG2 hl1
      refine ⟨_, rfl, hc, rfl, by omega, by omega, fun Dl hD => ?_⟩
      refine lc_it walk_range (fun i G => Same G2 G ∧ ∃ ws, G Dl = some (.lst ws) ∧ ws.length = i ∧ TsAt G ws ((List.range i).map fun k => (Row.old k).vs)) ⟨same_new hD, [], upd_same, rfl, .nil⟩ (fun _ _ _ _ => trivial) (fun i x G G' hi hP hY => ?_) (fun G hP => ?_)
      · obtain ⟨s3, ws, hd, lw, ht3⟩ := hP
        obtain ⟨rfl, rfl⟩ := hY
        refine ⟨rfl, _, rfl, (by show 2 ≤ sizeLine; decide), fun p hp => ?_⟩
        generalize hG3 : upd _ p _ = G3
        obtain ⟨s4, h_p⟩ := upd_gen hG3 hp
        have hd4 := s4 _ _ hd
        refine ⟨ws, hd4, sl_lt (by omega), fun b o e => ?_, _, upd_same, by rw [List.length_append, lw]; rfl, ?_⟩
        · rw [upd_ne (ne_of_none e hD)]
          exact s4 _ _ (s3 _ _ e)
        · rw [range_snoc]
          refine TsAt.push hd4 (ht3.same s4) ?_
          rw [h_p]
          show some (HO.tup [V.str "old", V.int (0 + (i : Int))]) = some (.tup [.str "old", .int (i : Int)])
          rw [Int.zero_add]
      · obtain ⟨s3, ws, hd, lw, ht3⟩ := hP
        refine ⟨l1, Dl, _, _, rfl, rfl, s3 _ _ h_l1, hd, sl_le (by simp only [List.length_singleton]; omega), fun l hl => ?_⟩
        generalize hG3 : upd _ l _ = G3
        obtain ⟨s4, h_l⟩ := upd_gen hG3 hl
        have S : Same H1 G3 := (s1.trans s2).trans (s3.trans s4)
        have w3 := w1.same S
        have nl : l ≠ a := ((w1.same ((s1.trans s2).trans s3))).ne hl
        refine q (.inn :: (List.range hc).map Row.old) l _ (fun r hr => ?_) (by simp) (by simp; omega) (d1.trans (.of S)) (w3.mono (by omega)) nl (same_free d1 hwx (((s1.trans s2).trans s3).free hl) nl) ⟨_, h_l, ?_⟩
        · rcases List.mem_cons.mp hr with rfl | hr
          · trivial
          · obtain ⟨k, hk, rfl⟩ := List.mem_map.mp hr
            exact List.mem_range.mp hk
        · refine TsAt.cons (s4 _ _ (s3 _ _ (s2 _ _ h_t))) ?_
          rw [List.map_map]
          exact ht3.same s4
    · refine ⟨(by show 0 ≤ sizeLine; decide), fun l hl => ?_⟩
      generalize hG : upd _ l _ = G0
      obtain ⟨s0, h_l⟩ := upd_gen hG hl
      have nl : l ≠ a := w1.ne hl
      have w0 := w1.same s0
      have hl0 : H l = none := same_free d1 hwx hl nl
      refine ⟨_, rfl, _, rfl, _, _, rfl, rfl, a, c + 1, (hc : Int) + 3, rfl, w0, by omega, by omega, Nat.lt_of_le_of_lt (show _ ≤ 1000 by omega) (by decide +kernel), fun r2 H2 r20 r21 d2 e2 w2 => ⟨_, _, rfl, rfl, (1 + r2).toNat, by rw [Int.toNat_of_nonneg (by omega)], by omega, by omega, ?_⟩⟩
      replace h_l := d2 _ _ nl h_l
      refine for_it walk_range (fun i σ G => ∃ (rows : List Row) (y1 y2 : Option V), σ = [some (.ref a), some (.int hc), y1, some (.ref l), y2] ∧ rows.length = i ∧ (∀ r ∈ rows, BegOk hc r) ∧ SameBut a H G ∧ WellAt G a (c + 2 + i) ∧ TL7 G l (rows.map Row.vs)) ⟨[], none, none, rfl, rfl, (fun r h => nomatch h), (d1.trans (.of s0)).trans d2, w2.mono (by omega), [], h_l, .nil⟩ (fun _ _ _ _ _ => trivial) (fun i x σ G G' hi hP hY => ?_) (fun σ G hP => ?_)
      · obtain ⟨rows, y1, y2, rfl, lr, hb, sb, wl, rv, hrv, ht⟩ := hP
        obtain ⟨rfl, rfl⟩ := hY
        have i6 : i < 6 := by omega
        refine ⟨_, rfl, _, rfl, _, _, rfl, rfl, a, c + 2 + i, (hc : Int) + 1, rfl, wl, by omega, by omega, Nat.lt_of_le_of_lt (show _ ≤ 1000 by omega) (by decide +kernel), fun r3 H3 r30 r31 d3 e3 w3 => ?_⟩
        have hrv3 := d3 _ _ nl hrv
        obtain ⟨gxs, hgx⟩ := wl.lst
        have ht3 := ht.but d3 hgx
        refine ⟨_, rfl, .inl ⟨rfl, _, SqL.of hrv3⟩, (by show 1 ≤ sizeLine; decide), fun t1 ht1 => ?_⟩
        generalize hG1 : upd _ t1 _ = G1
        obtain ⟨s1, h_t1⟩ := upd_gen hG1 ht1
        refine ⟨_, rfl, _, _, rfl, rfl, (by show 2 ≤ sizeLine; decide), fun t2 ht2 => ?_⟩
        generalize hG2 : upd _ t2 _ = G2
        obtain ⟨s2, h_t2⟩ := upd_gen hG2 ht2
        refine ⟨(by show 2 ≤ sizeLine; decide), fun l3 hl3 => ?_⟩
        generalize hG3 : upd _ l3 _ = G3
        obtain ⟨s3, h_l3⟩ := upd_gen hG3 hl3
        have S := (s1.trans s2).trans s3
        replace h_t1 := s3 _ _ (s2 _ _ h_t1)
        replace h_t2 := s3 _ _ h_t2
        have hrv4 := S _ _ hrv3
        have ht4 := ht3.same S
        have w4 := w3.same S
        obtain ⟨r, p, hix, hbr, hpr⟩ : ∃ (r : Row) (p : Addr), atI [V.ref t1, V.ref t2] (if decide (r3 > 0) = true then 1 else 0) = some (.ref p) ∧ BegOk hc r ∧ G3 p = some (.tup r.vs) := by
          by_cases k : r3 > 0
          · refine ⟨.old (r3 - 1).toNat, t2, by rw [decide_eq_true k]; exact a1, show (r3 - 1).toNat < hc by omega, ?_⟩
            rw [h_t2]
            show some (HO.tup [V.str "old", V.int (r3 - 1)]) = some (.tup [.str "old", .int (((r3 - 1).toNat : Nat) : Int)])
            rw [show (((r3 - 1).toNat : Nat) : Int) = r3 - 1 by omega]
          · exact ⟨.inn, t1, by rw [decide_eq_false k]; exact a0, trivial, h_t1⟩
        refine ⟨_, rfl, _, _, rfl, rfl, .inr ⟨_, rfl, l3, _, _, .ref p, rfl, rfl, SqL.of h_l3, hix, l, _, _, rfl, rfl, hrv4, ?_, ?_⟩⟩
        · have := ht4.len
          rw [List.length_map] at this
          exact sl_lt (by omega)
        · refine ⟨rows ++ [r], _, _, rfl, by rw [List.length_append, lr]; rfl, fun x hx => ?_, ?_, ?_, _, upd_same, ?_⟩
          · rcases List.mem_append.mp hx with hx | hx
            · exact hb x hx
            · rw [List.mem_singleton.mp hx]
              exact hbr
          · refine fun b o n e => ?_
            rw [upd_ne (ne_of_none e hl0)]
            exact S _ _ (d3 _ _ n (sb _ _ n e))
          · exact (w4.but SameBut.upd nl.symm).mono (by omega)
          · rw [List.map_append]
            exact TsAt.push hrv4 ht4 hpr
      · obtain ⟨rows, y1, y2, rfl, lr, hb, sb, wl, tl⟩ := hP
        refine ⟨_, rfl, q rows l _ hb ?_ ?_ sb (wl.mono ?_) nl hl0 tl⟩
        all_goals omega
end
end E1

namespace E1
open PySem PySem.Spec PyProof.Rows L2

theorem TL7.push {G : Hp} {l p : Addr} {rows : List Row} {r : Row} {vs : List V} (hl : G l = some (.lst vs)) (t : TsAt G vs (rows.map Row.vs)) (hp : G p = some (.tup r.vs)) : TL7 (upd G l (.lst (vs ++ [.ref p]))) l ((rows ++ [r]).map Row.vs) := by
  refine ⟨_, upd_same, ?_⟩
  rw [List.map_append]
  exact TsAt.push hl t hp
theorem TsAt.rlen {G : Hp} {rows : List Row} {vs : List V} (t : TsAt G vs (rows.map Row.vs)) : vs.length = rows.length := by
  rw [t.len, List.length_map]
theorem snoc_len {rows ex : List Row} {r : Row} : (rows ++ (ex ++ [r])).length = (rows ++ ex).length + 1 := by simp only [List.length_append, List.length_singleton]; omega
/-- a row's first two things -/
def Row.d2 : Row → List PyData
  | .inn => [.str "in"]
  | .old k => [.str "old", .int k]
  | .times f _ _ => [.str "times", .int f]
  | .plus a _ => [.str "plus", .int a]
  | .less a _ => [.str "less", .int a]
  | .move m _ => [.str "move", .int m]
  | .keep f _ => [.str "keep", .int f]
theorem Row.d2_shaped (r : Row) : SeqAt.shaped (.tuple r.d2) = true := by
  have k1 : ∀ (z : Str) (k : Int), PyData.canLay0 (.str z) = true → SeqAt.shaped (.tuple [.str z, .int k]) = true := fun z k h => by
    show (PyData.canLay0 (.tuple [.str z, .int k]) && decide (PyData.depth (.tuple [.str z, .int k]) ≤ 64)) = true
    have e : PyData.canLay0 (.tuple [.str z, .int k]) = true := by
      simp only [PyData.canLay0, PyData.canLayAll0, Bool.and_true] at h ⊢
      exact h
    rw [e, Bool.true_and]
    simp only [PyData.depth, PyData.depthAll]
    rfl
  cases r with
  | inn => exact (by decide +kernel : SeqAt.shaped (.tuple [.str "in"]) = true)
  | old k => exact k1 _ _ (by simp only [PyData.canLay0]; decide +kernel)
  | times f m a => exact k1 _ _ (by simp only [PyData.canLay0]; decide +kernel)
  | plus a b => exact k1 _ _ (by simp only [PyData.canLay0]; decide +kernel)
  | less a b => exact k1 _ _ (by simp only [PyData.canLay0]; decide +kernel)
  | move m a => exact k1 _ _ (by simp only [PyData.canLay0]; decide +kernel)
  | keep f a => exact k1 _ _ (by simp only [PyData.canLay0]; decide +kernel)
theorem Row.d2_keep (r : Row) (kd : Nat) (h : PyData.eqv (.tuple r.d2) (.tuple [.str "keep", .int kd]) = true) : ∃ y, r = .keep kd y := by
  have ne : ∀ (z : Str), (z == ("keep" : Str)) = false → ∀ t, PyData.eqv (.tuple (.str z :: t)) (.tuple [.str "keep", .int kd]) = true → False := fun z hz t e => by
    simp only [PyData.eqv, PyData.eqvAll] at e
    rw [hz] at e
    cases e
  cases r with
  | inn => exact (ne _ (by decide +kernel) _ h).elim
  | old k => exact (ne _ (by decide +kernel) _ h).elim
  | times f m a => exact (ne _ (by decide +kernel) _ h).elim
  | plus a b => exact (ne _ (by decide +kernel) _ h).elim
  | less a b => exact (ne _ (by decide +kernel) _ h).elim
  | move m a => exact (ne _ (by decide +kernel) _ h).elim
  | keep f a =>
    simp only [Row.d2, PyData.eqv, PyData.eqvAll, Bool.and_true, Bool.and_eq_true, beq_iff_eq] at h
    have := h.2
    refine ⟨a, ?_⟩
    congr 1
    omega
theorem Row.dp1 {K : PySem.W.Frag} {H : Hp} (r : Row) (h : HT.sIx r.vs.length 0 none = 0 ∧ HT.sIx r.vs.length r.vs.length (some 2) = r.vs.length) : DpAll K H r.vs r.d2 := by
  cases r with
  | inn => exact .cons (.str _) .nil
  | old k => exact .cons (.str _) (.cons (.int _) .nil)
  | times f m a => exact absurd h (by show ¬ (HT.sIx 4 0 none = 0 ∧ HT.sIx 4 4 (some 2) = 4); decide)
  | plus a b => exact absurd h (by show ¬ (HT.sIx 3 0 none = 0 ∧ HT.sIx 3 3 (some 2) = 3); decide)
  | less a b => exact absurd h (by show ¬ (HT.sIx 3 0 none = 0 ∧ HT.sIx 3 3 (some 2) = 3); decide)
  | move m a => exact absurd h (by show ¬ (HT.sIx 3 0 none = 0 ∧ HT.sIx 3 3 (some 2) = 3); decide)
  | keep f a => exact absurd h (by show ¬ (HT.sIx 3 0 none = 0 ∧ HT.sIx 3 3 (some 2) = 3); decide)
theorem Row.dp2 {K : PySem.W.Frag} {H : Hp} (r : Row) : DpAll K H (cutV r.vs none (some 2)) r.d2 := by
  cases r with
  | inn => exact .cons (.str _) .nil
  | old k => exact .cons (.str _) (.cons (.int _) .nil)
  | times f m a => exact .cons (.str _) (.cons (.int _) .nil)
  | plus a b => exact .cons (.str _) (.cons (.int _) .nil)
  | less a b => exact .cons (.str _) (.cons (.int _) .nil)
  | move m a => exact .cons (.str _) (.cons (.int _) .nil)
  | keep f a => exact .cons (.str _) (.cons (.int _) .nil)
theorem dp_nats {K : PySem.W.Frag} {H : Hp} : ∀ ns : List Nat, DpAll K H (ns.map fun n : Nat => V.int (n : Int)) ((ns.map fun n : Nat => (n : Int)).map PyData.int)
  | [] => .nil
  | _ :: ns => .cons (.int _) (dp_nats ns)
section
variable {P : Program} {w : World} {K : PySem.W.Frag} {mg : Str → Option Value} {base : Heap}
theorem sc__law_mixed : FnScope ["_law_well_here", "_law_made_here", "_law_reach", "_law_last", "_law_at", "_law_factor"] ["_law_well_here", "_law_made_here", "_law_reach"] (defScope s__law_mixed) := ⟨rfl, rfl, rfl, by decide +kernel, rfl, by decide +kernel, by decide +kernel⟩
theorem ok__law_mixed {f : Addr} {fd : FuncData} (F : Fun K "_law_mixed" "_law_mixed" s__law_mixed f fd) (z : Zs mg) (c__law_draw : Cal P w K mg base 1 "_law_draw" ["_law_well_here", "_law_many"] spDraw) : FnOk P w K mg base CX0 2 f fd ["_law_well_here", "_law_made_here", "_law_reach"] spLMixed := by
  refine F.ok sc__law_mixed (fun vs H Q E h => ?_) (fun cdv A outer s H vs Q E hr h => ?_)
  · obtain ⟨a, l, rows, M, c, rfl, _⟩ := h
    rfl
  · obtain ⟨a, l, rows, M, c, rfl, ⟨rv, hl, ht⟩, nl, M0, M1, l1, l6, hw, c0, c1, q⟩ := h
    refine ⟨_, (pss_cons (ps_set (i := 3) sc__law_mixed.nd rfl (.inl rfl) pe_int)
      (pss_cons (ps_for PassesOwn.never rfl (pi_range2 (by rfl) z.range (pa_cons pe_int (pa_cons (pe_callB call_len_seq (by rfl) z.len PySem.boot_len (pa_cons (pv 1) pa_nil)) pa_nil))) (pg_name (i := 4) sc__law_mixed.nd rfl (.inl rfl)) (pss_cons (ps_set (i := 5) sc__law_mixed.nd rfl (.inl rfl) (pe_op op_sub (pe_cal c__law_draw hr (pa_cons (pv 0) (pa_cons pe_int pa_nil))) pe_int))
      (pss_cons (ps_expr (pe_bm PySem.F.plainAttrs_list PySem.F.slot_list_append PySem.F.type_list_append mt_append (pv 1) (pa_cons (pe_tup (pa_cons pe_str (pa_cons (pv 5) (pa_cons (pe_cal c__law_draw hr (pa_cons (pv 0) (pa_cons (pe_op op_add (pv 2) pe_int) pa_nil))) (pa_cons (pv 4) pa_nil))))) pa_nil)))
      (pss_cons (ps_expr (pe_bm PySem.F.plainAttrs_list PySem.F.slot_list_append PySem.F.type_list_append mt_append (pv 1) (pa_cons (pe_tup (pa_cons (pe_ix ix_list (pe_lst (pa_cons pe_str (pa_cons pe_str pa_nil))) (pe_cal c__law_draw hr (pa_cons (pv 0) (pa_cons pe_int pa_nil))) (fun _ _ => rfl)) (pa_cons (pv 3) (pa_cons (pe_op op_sub (pe_callB call_len_seq (by rfl) z.len PySem.boot_len (pa_cons (pv 1) pa_nil)) pe_int) pa_nil)))) pa_nil)))
      (pss_one (ps_set (i := 3) sc__law_mixed.nd rfl (.inl rfl) (pe_op op_sub (pe_callB call_len_seq (by rfl) z.len PySem.boot_len (pa_cons (pv 1) pa_nil)) pe_int)))))))
      (pss_one (ps_ret (pv 3))))), ?_⟩
    have ll := ht.rlen
    refine ⟨_, rfl, l, _, rfl, .inl (SqL.of hl), 1, _, rfl, ⟨by omega, by omega, by omega, by omega⟩, ?_⟩
    refine for_it walk_range (fun i σ G => ∃ (ex : List Row) (last : Nat) (y4 y5 : Option V), σ = [some (.ref a), some (.ref l), some (.int M), some (.int last), y4, y5] ∧ ex.length = 2 * i ∧ (∀ r ∈ ex, MixRow rows.length M r) ∧ (∀ j r, (rows ++ ex)[j]? = some r → rows.length ≤ j → ∀ hc fc, RowOk hc fc j r) ∧ last < (rows ++ ex).length ∧ SameBut2 a l H G ∧ WellAt G a (c + 3 * i) ∧ TL7 G l ((rows ++ ex).map Row.vs)) ⟨[], 0, none, none, rfl, rfl, (fun r x => nomatch x), (fun j r e k => ?_), ?_, SameBut2.refl _ _ _, hw.mono (by omega), rv, hl, by rw [List.append_nil]; exact ht⟩ (fun _ _ _ _ _ => trivial) (fun i x σ G G' hi hP hY => ?_) (fun σ G hP => ?_)
    · rw [List.append_nil] at e
      have := (List.getElem?_eq_some_iff.mp e).1
      omega
    · rw [List.append_nil]
      omega
    · obtain ⟨ex, last, y4, y5, rfl, le, hm, hk, hla, sb, wl, vs, hv, htv⟩ := hP
      obtain ⟨rfl, rfl⟩ := hY
      rw [ll] at hi
      have hi5 : i < 5 := by omega
      have at_ : (1 + i : Nat) < rows.length := by omega
      have la : (rows ++ ex).length = rows.length + 2 * i := by rw [List.length_append, le]
      have lv := htv.rlen
      obtain ⟨gx, hgx⟩ := wl.lst
      refine ⟨_, rfl, a, c + 3 * i, 19, rfl, wl, by omega, by decide, by decide +kernel, fun r1 H1 r10 r11 d1 e1 w1 => ⟨_, _, rfl, rfl, ?_⟩⟩
      obtain ⟨gx1, hgx1⟩ := w1.lst
      have hv1 := d1 _ _ nl hv
      have ht1 := htv.but d1 hgx
      refine ⟨_, rfl, .inl ⟨rfl, _, SqL.of hv1⟩, _, rfl, _, rfl, _, rfl, _, _, rfl, rfl, a, c + 3 * i + 1, M + 1, rfl, w1, by omega, by omega, Nat.lt_of_le_of_lt (show _ ≤ 1000 by omega) (by decide +kernel), fun r2 H2 r20 r21 d2 e2 w2 => ?_⟩
      obtain ⟨m, rfl⟩ : ∃ n : Nat, r2 = (n : Int) := ⟨r2.toNat, by omega⟩
      have hv2 := d2 _ _ nl hv1
      have ht2 := ht1.but d2 hgx1
      refine ⟨_, rfl, (by show 4 ≤ sizeLine; decide), fun p hp => ?_⟩
      generalize hG : upd _ p _ = G3
      obtain ⟨s3, h_p⟩ := upd_gen hG hp
      have hv3 := s3 _ _ hv2
      have ht3 := ht2.same s3
      have w3 := w2.same s3
      have hp3 : G3 p = some (.tup (Row.times (r1 - 9) m (1 + i)).vs) := by
        rw [h_p]
        show some (HO.tup [V.str "times", V.int (r1 - 9), V.int (m : Int), V.int (1 + (i : Int))]) = some (.tup [.str "times", .int (r1 - 9), .int (m : Int), .int ((1 + i : Nat) : Int)])
        rw [show ((1 + i : Nat) : Int) = 1 + (i : Int) by omega]
      refine ⟨l, _, _, rfl, rfl, hv3, sl_lt (by omega), ?_⟩
      have t4 := TL7.push hv3 ht3 hp3
      generalize hG4 : upd _ l _ = G4 at t4
      obtain ⟨s4, _⟩ := upd_but hG4
      obtain ⟨vs4, hv4, ht4⟩ := t4
      have lv4 := ht4.rlen
      rw [List.length_append, List.length_singleton] at lv4
      have w4 := w3.but s4 nl.symm
      refine ⟨_, rfl, .inl ⟨rfl, _, SqL.of hv4⟩, (by show 2 ≤ sizeLine; decide), fun l5 hl5 => ?_⟩
      generalize hG5 : upd _ l5 _ = G5
      obtain ⟨s5, h_l5⟩ := upd_gen hG5 hl5
      have w5 := w4.same s5
      have n5 := w4.ne hl5
      obtain ⟨gx5, hgx5⟩ := w5.lst
      refine ⟨_, rfl, a, c + 3 * i + 1 + 1, 2, rfl, w5, by omega, by decide, by decide +kernel, fun r6 H6 r60 r61 d6 e6 w6 => ?_⟩
      have hv6 := d6 _ _ nl (s5 _ _ hv4)
      have ht6 := (ht4.same s5).but d6 hgx5
      obtain ⟨v, i3, o3⟩ := twoI (x := V.str "plus") (y := V.str "less") r60 r61
      refine ⟨l5, _, r6, _, rfl, rfl, SqL.of (d6 _ _ n5 h_l5), i3, _, rfl, _, rfl, l, _, rfl, .inl (SqL.of hv6), _, _, rfl, rfl, (by show 3 ≤ sizeLine; decide), fun p7 hp7 => ?_⟩
      generalize hG7 : upd _ p7 _ = G7
      obtain ⟨s7, h_p7⟩ := upd_gen hG7 hp7
      obtain ⟨r, hr, hp8, rok, rmx⟩ : ∃ r : Row, (r = .plus last (rows.length + 2 * i) ∨ r = .less last (rows.length + 2 * i)) ∧ G7 p7 = some (.tup r.vs) ∧ (∀ hc fc, RowOk hc fc (rows.length + 2 * i + 1) r) ∧ MixRow rows.length M r := by
        have e : (vs4.length : Int) - 1 = ((rows.length + 2 * i : Nat) : Int) := by omega
        dsimp only at h_p7
        rw [e] at h_p7
        rcases o3 with rfl | rfl
        · exact ⟨_, .inl rfl, h_p7, fun _ _ => ⟨by omega, by omega⟩, trivial⟩
        · exact ⟨_, .inr rfl, h_p7, fun _ _ => ⟨by omega, by omega⟩, trivial⟩
      have hv7 := s7 _ _ hv6
      refine ⟨l, _, _, rfl, rfl, hv7, sl_lt (by omega), ?_⟩
      have t8 := TL7.push hv7 (ht6.same s7) hp8
      generalize hG8 : upd _ l _ = G8 at t8
      obtain ⟨s8, _⟩ := upd_but hG8
      obtain ⟨vs8, hv8, ht8⟩ := t8
      have lv8 := ht8.rlen
      rw [List.length_append, List.length_append, List.length_singleton, List.length_singleton] at lv8
      refine ⟨_, rfl, l, _, rfl, .inl (SqL.of hv8), _, _, rfl, rfl, ex ++ [.times (r1 - 9) m (1 + i)] ++ [r], rows.length + 2 * i + 1, some (.int (1 + (i : Int))), some (.int (r1 - 9)), ?_, ?_, ?_, ?_, ?_, ?_, ?_, vs8, hv8, ?_⟩
      · have e : (vs8.length : Int) - 1 = ((rows.length + 2 * i + 1 : Nat) : Int) := by omega
        show [some (V.ref a), some (V.ref l), some (V.int M), some (V.int ((vs8.length : Int) - 1)), some (V.int (1 + (i : Int))), some (V.int (r1 - 9))] = _
        rw [e]
      · simp only [List.length_append, List.length_singleton]
        omega
      · intro x hx
        rcases List.mem_append.mp hx with hx | hx
        · rcases List.mem_append.mp hx with hx | hx
          · exact hm x hx
          · rw [List.mem_singleton.mp hx]
            exact ⟨at_, by omega, by omega⟩
        · rw [List.mem_singleton.mp hx]
          exact rmx
      · intro j x e kk hc fc
        rcases snoc_at e with e | ⟨rfl, rfl⟩
        · rcases snoc_at e with e | ⟨rfl, rfl⟩
          · exact hk j x e kk hc fc
          · rw [la]
            exact ⟨by omega, by omega, by omega⟩
        · rw [snoc_len, la]
          exact rok hc fc
      · rw [snoc_len, snoc_len, la]
        omega
      · exact sb.trans ((SameBut2.one (d1.trans (d2.trans (.of s3)))).trans ((SameBut2.two s4).trans ((SameBut2.one ((SameBut.of s5).trans (d6.trans (.of s7)))).trans (.two s8))))
      · exact ((w6.same s7).but s8 nl.symm).mono (by omega)
      · rw [← List.append_assoc, ← List.append_assoc]
        exact ht8
    · obtain ⟨ex, last, y4, y5, rfl, le, hm, hk, hla, sb, wl, tl⟩ := hP
      rw [ll] at le wl
      exact ⟨_, rfl, q ex last G hm hk hla (by omega) sb (wl.mono (by omega)) tl⟩
theorem sc__law_link : FnScope ["_law_well_here", "_law_made_here", "_law_kind", "_law_last", "_law_some", "_law_at", "_law_thing"] ["_law_well_here", "_law_made_here", "_law_kind", "_law_last"] (defScope s__law_link) := ⟨rfl, rfl, rfl, by decide +kernel, rfl, by decide +kernel, by decide +kernel⟩
theorem ok__law_link {f : Addr} {fd : FuncData} (F : Fun K "_law_link" "_law_link" s__law_link f fd) (z : Zs mg) (c__law_draw : Cal P w K mg base 1 "_law_draw" ["_law_well_here", "_law_many"] spDraw) : FnOk P w K mg base CX0 2 f fd ["_law_well_here", "_law_made_here", "_law_kind", "_law_last"] (spLLink K) := by
  refine F.ok sc__law_link (fun vs H Q E h => ?_) (fun cdv A outer s H vs Q E hr h => ?_)
  · obtain ⟨a, l, rows, kd, last, c, rfl, _⟩ := h
    rfl
  · obtain ⟨a, l, rows, kd, last, c, rfl, ⟨rv, hl, ht⟩, nl, la, lr, hw, c0, c1, q⟩ := h
    refine ⟨_, (pss_cons (ps_setLc (i := 4) (own := [("_law_at", 5), ("_law_thing", 6)]) (g := gTup K 2 (gCons (gName 5) (gCons (gName 6) gNil))) (te := (tVar 5)) (tt := (tTest (tOp (rEqD K) (tSl (rSlA K) (tVar 6) tNoPart (tPart (tC (.int 2)))) (tTup (tCons (tC (.str "keep")) (tCons (tVar 2) tNil)))))) (by rfl) sc__law_link.nd rfl rfl (sw_true rfl rfl rfl (by decide +kernel)) (pi_enum (by rfl) z.enumerate (pa_cons (pv 1) pa_nil)) (blkOk_by (own := [("_law_at", 5), ("_law_thing", 6)]) (N := ["_law_well_here", "_law_made_here", "_law_kind", "_law_last", "_law_some", "_law_at", "_law_thing"]) (sc := defScope s__law_link) (by decide +kernel)) (fun _ _ _ _ _ => by exact (pg_tup (by rfl) (pgs_cons (pg_name (i := 5) sc__law_link.nd rfl (.inl rfl)) (pgs_cons (pg_name (i := 6) sc__law_link.nd rfl (.inl rfl)) pgs_nil)))) (fun _ _ _ _ _ => by exact (pts_one (pt_cmpR (op_eqD hr.units) (pe_slice sl_tupA (pv 6) po_none (po_some pe_int)) (pe_tup (pa_cons pe_str (pa_cons (pv 2) pa_nil))) (nomark _)))) (fun _ _ _ _ _ => by exact (pv 5)))
      (C8.pss_cut (ps_if (PW.pt (pw_and (pt_cmpR (op_neD hr.units) (pv 4) (pe_lst pa_nil) (nomark _)) (pw_and1 (pt_cmpR op_eq (pe_cal c__law_draw hr (pa_cons (pv 0) (pa_cons pe_int pa_nil))) pe_int (nomark _))))) (pss_one (ps_ret (pe_ix ix_list (pv 4) (pe_cal c__law_draw hr (pa_cons (pv 0) (pa_cons (pe_callB call_len_seq (by rfl) z.len PySem.boot_len (pa_cons (pv 4) pa_nil)) pa_nil))) (fun _ _ => rfl)))) pss_nil)
      (pss_cons (ps_expr (pe_bm PySem.F.plainAttrs_list PySem.F.slot_list_append PySem.F.type_list_append mt_append (pv 1) (pa_cons (pe_tup (pa_cons pe_str (pa_cons (pv 2) (pa_cons (pe_ix ix_list (pe_lst (pa_cons (pv 3) (pa_cons (pe_op op_sub (pe_callB call_len_seq (by rfl) z.len PySem.boot_len (pa_cons (pv 1) pa_nil)) pe_int) (pa_cons (pe_cal c__law_draw hr (pa_cons (pv 0) (pa_cons (pe_callB call_len_seq (by rfl) z.len PySem.boot_len (pa_cons (pv 1) pa_nil)) pa_nil))) pa_nil)))) (pe_cal c__law_draw hr (pa_cons (pv 0) (pa_cons pe_int pa_nil))) (fun _ _ => rfl)) pa_nil)))) pa_nil)))
      (pss_one (ps_ret (pe_op op_sub (pe_callB call_len_seq (by rfl) z.len PySem.boot_len (pa_cons (pv 1) pa_nil)) pe_int)))))), ?_⟩
    have ll := ht.rlen
    refine ⟨_, rfl, l, _, rfl, SqL.of hl, fun D hD => ?_⟩
    refine lc_it (walk_enum (K := K) (a := l) (xs := rv)) (fun i G => Same H G ∧ ∃ ns : List Nat, G D = some (.lst (ns.map fun n : Nat => V.int (n : Int))) ∧ ns.length ≤ i ∧ ∀ n ∈ ns, ∃ y, rows[n]? = some (.keep kd y)) ⟨same_new hD, [], upd_same, Nat.le_refl _, (fun n x => nomatch x)⟩ (fun i G _ hP => SqL.of (hP.1 _ _ hl)) (fun i v G G' hi hP hY => ?_) (fun G hP => ?_)
    · obtain ⟨s1, ns, hd, ln, hns⟩ := hP
      obtain ⟨Tp, u, v', rfl, nT, rfl, e1, e2⟩ := hY
      cases e1
      obtain ⟨p, xs, rfl, ex, hp⟩ := ht.get e2
      rw [List.getElem?_map] at ex
      obtain ⟨r, er, rfl⟩ := Option.map_eq_some_iff.mp ex
      have sN := same_new (o := .tup [.int (i : Nat), .ref p]) nT
      replace hp := s1 _ _ hp
      refine ⟨Tp, _, rfl, SqT.of upd_same, rfl, _, _, rfl, _, _, rfl, rfl, rfl, ?_⟩
      refine ⟨_, rfl, _, rfl, p, _, rfl, SqT.of (sN _ _ hp), fun hwh => ?_, fun hwh c1 hc1 => ?_⟩
      · refine ⟨_, rfl, (by show 2 ≤ sizeLine; decide), fun c2 hc2 => ?_⟩
        generalize hG2 : upd _ c2 _ = G2
        obtain ⟨s4, h_c2⟩ := upd_gen hG2 hc2
        have S := sN.trans s4
        refine ⟨.tuple r.d2, .tuple [.str "keep", .int kd], .tup (SqT.of (s4 _ _ (sN _ _ hp))) (r.dp1 hwh), .tup (SqT.of h_c2) (.cons (.str _) (.cons (.int _) .nil)), r.d2_shaped, kp_shaped _, _, rfl, ?_⟩
        refine ite2 (fun heq => ?_) (fun _ => ?_)
        · obtain ⟨y, rfl⟩ := r.d2_keep kd heq
          refine ⟨_, rfl, _, S _ _ hd, sl_lt (by rw [List.length_map]; omega), fun b o e => ?_, ns ++ [i], ?_, ?_, ?_⟩
          · rw [upd_ne (ne_of_none e hD)]
            exact S _ _ (s1 _ _ e)
          · rw [upd_same, List.map_append]
            rfl
          · rw [List.length_append, List.length_singleton]
            omega
          · intro n hn
            rcases List.mem_append.mp hn with hn | hn
            · exact hns n hn
            · rw [List.mem_singleton.mp hn]
              exact ⟨y, er⟩
        · exact ⟨s1.trans S, ns, S _ _ hd, by omega, hns⟩
      · generalize hG1 : upd _ c1 _ = G1
        obtain ⟨s5, h_c1⟩ := upd_gen hG1 hc1
        refine ⟨_, rfl, (by show 2 ≤ sizeLine; decide), fun c2 hc2 => ?_⟩
        generalize hG2 : upd _ c2 _ = G2
        obtain ⟨s4, h_c2⟩ := upd_gen hG2 hc2
        have S := sN.trans (s5.trans s4)
        refine ⟨.tuple r.d2, .tuple [.str "keep", .int kd], .tup (SqT.of (s4 _ _ h_c1)) r.dp2, .tup (SqT.of h_c2) (.cons (.str _) (.cons (.int _) .nil)), r.d2_shaped, kp_shaped _, _, rfl, ?_⟩
        refine ite2 (fun heq => ?_) (fun _ => ?_)
        · obtain ⟨y, rfl⟩ := r.d2_keep kd heq
          refine ⟨_, rfl, _, S _ _ hd, sl_lt (by rw [List.length_map]; omega), fun b o e => ?_, ns ++ [i], ?_, ?_, ?_⟩
          · rw [upd_ne (ne_of_none e hD)]
            exact S _ _ (s1 _ _ e)
          · rw [upd_same, List.map_append]
            rfl
          · rw [List.length_append, List.length_singleton]
            omega
          · intro n hn
            rcases List.mem_append.mp hn with hn | hn
            · exact hns n hn
            · rw [List.mem_singleton.mp hn]
              exact ⟨y, er⟩
        · exact ⟨s1.trans S, ns, S _ _ hd, by omega, hns⟩
    · obtain ⟨s1, ns, hd, ln, hns⟩ := hP
      rw [ll] at ln
      have w1 := hw.same s1
      have l1 := s1 _ _ hl
      have nD : D ≠ a := hw.ne hD
      refine ⟨fun σ G2 => σ = [some (.ref a), some (.ref l), some (.int kd), some (.int last), some (.ref D), none, none] ∧ SameBut a H G2 ∧ WellAt G2 a (c + 1), ?_, fun σ G2 hM => ?_⟩
      · refine ⟨_, rfl, (by show 0 ≤ sizeLine; decide), fun z hz => ?_⟩
        generalize hG1 : upd _ z _ = G1
        obtain ⟨s2, h_z⟩ := upd_gen hG1 hz
        refine ⟨.list ((ns.map fun n : Nat => (n : Int)).map PyData.int), .list (([] : List Int).map PyData.int), .lst (SqL.of (s2 _ _ hd)) (dp_nats ns), .lst (SqL.of h_z) .nil, PySem.W.ke_shaped_ints _, PySem.W.ke_shaped_ints _, _, rfl, ?_⟩
        cases ns with
        | nil => exact iteF ⟨rfl, .of (s1.trans s2), (w1.same s2).mono (by omega)⟩
        | cons n0 nt =>
          refine iteT ⟨_, rfl, a, c, 3, rfl, (w1.same s2), by omega, by decide, by decide +kernel, fun r3 H3 r30 r31 d3 e3 w3 => ⟨rfl, _, rfl, ite2 (fun _ => ?_) (fun _ => ⟨rfl, (SameBut.of (s1.trans s2)).trans d3, w3⟩)⟩⟩
          have hd3 := d3 _ _ nD (s2 _ _ hd)
          refine ⟨_, rfl, _, rfl, _, rfl, D, _, rfl, .inl (SqL.of hd3), a, c + 1, _, rfl, w3, by omega, by rw [List.length_map, List.length_cons]; omega, Nat.lt_of_le_of_lt (show _ ≤ 1000 by rw [List.length_map]; omega) (by decide +kernel), fun r4 H4 r40 r41 d4 e4 w4 => ?_⟩
          rw [List.length_map] at r41
          obtain ⟨j, rfl⟩ : ∃ j : Nat, r4 = (j : Int) := ⟨r4.toNat, by omega⟩
          have jl : j < (n0 :: nt).length := by omega
          have ej := List.getElem?_eq_getElem jl
          obtain ⟨y, ey⟩ := hns _ (List.getElem_mem jl)
          refine ⟨D, _, _, _, rfl, rfl, SqL.of (d4 _ _ nD hd3), atI_nat (by rw [List.getElem?_map, ej]; rfl), q [] _ 0 H4 (.inl rfl) ⟨y, by rw [List.append_nil]; exact ey⟩ (.one ((SameBut.of (s1.trans s2)).trans (d3.trans d4))) (w4.mono (by omega)) ?_⟩
          obtain ⟨gx, hgx⟩ := w3.lst
          obtain ⟨gx2, hgx2⟩ := (w1.same s2).lst
          rw [List.append_nil]
          exact ⟨rv, d4 _ _ nl (d3 _ _ nl (s2 _ _ l1)), ((ht.same (s1.trans s2)).but d3 hgx2).but d4 hgx⟩
      obtain ⟨rfl, sb, w2⟩ := hM
      obtain ⟨gx0, hgx0⟩ := hw.lst
      have hv2 := sb _ _ nl hl
      have ht2 := ht.but sb hgx0
      clear s1 ns hd ln hns w1 l1 nD hD
      refine ⟨_, rfl, .inl ⟨rfl, _, SqL.of hv2⟩, _, rfl, _, rfl, _, rfl, l, _, rfl, .inl (SqL.of hv2), _, _, rfl, rfl, _, rfl, _, rfl, l, _, rfl, .inl (SqL.of hv2), a, c + 1, _, rfl, w2, by omega, by omega, Nat.lt_of_le_of_lt (show _ ≤ 1000 by omega) (by decide +kernel), fun r3 H3 r30 r31 d3 e3 w3 => ?_⟩
      obtain ⟨x3, rfl⟩ : ∃ n : Nat, r3 = (n : Int) := ⟨r3.toNat, by omega⟩
      obtain ⟨gx2, hgx2⟩ := w2.lst
      have hv3 := d3 _ _ nl hv2
      have ht3 := ht2.but d3 hgx2
      refine ⟨(by show 3 ≤ sizeLine; decide), fun l4 hl4 => ?_⟩
      generalize hG4 : upd _ l4 _ = G4
      obtain ⟨s4, h_l4⟩ := upd_gen hG4 hl4
      have w4 := w3.same s4
      have n4 := w3.ne hl4
      obtain ⟨gx4, hgx4⟩ := w4.lst
      refine ⟨_, rfl, a, c + 1 + 1, 3, rfl, w4, by omega, by decide, by decide +kernel, fun r5 H5 r50 r51 d5 e5 w5 => ?_⟩
      have hv5 := d5 _ _ nl (s4 _ _ hv3)
      have ht5 := (ht3.same s4).but d5 hgx4
      obtain ⟨v, i3, o3⟩ := threeI (x := V.int last) (y := V.int ((rv.length : Int) - 1)) (z := V.int x3) r50 r51
      obtain ⟨x, rfl, xl⟩ : ∃ x : Nat, v = .int (x : Int) ∧ x < rows.length := by
        rcases o3 with rfl | rfl | rfl
        · exact ⟨_, rfl, la⟩
        · exact ⟨rv.length - 1, by congr 1; omega, by omega⟩
        · exact ⟨_, rfl, by omega⟩
      refine ⟨l4, _, r5, _, rfl, rfl, SqL.of (d5 _ _ n4 h_l4), i3, (by show 3 ≤ sizeLine; decide), fun p hp => ?_⟩
      generalize hG7 : upd _ p _ = G7
      obtain ⟨s7, h_p7⟩ := upd_gen hG7 hp
      have hv7 := s7 _ _ hv5
      refine ⟨l, _, _, rfl, rfl, hv7, sl_lt (by omega), ?_⟩
      have t8 := TL7.push (r := .keep kd x) hv7 (ht5.same s7) h_p7
      generalize hG8 : upd _ l _ = G8 at t8
      obtain ⟨s8, _⟩ := upd_but hG8
      obtain ⟨vs8, hv8, ht8⟩ := t8
      have lv8 := ht8.rlen
      rw [List.length_append, List.length_singleton] at lv8
      refine ⟨_, rfl, l, _, rfl, .inl (SqL.of hv8), _, _, rfl, rfl, ?_⟩
      have e : (vs8.length : Int) - 1 = ((rows.length : Nat) : Int) := by omega
      dsimp only
      rw [e]
      refine q [.keep kd x] rows.length x G8 (.inr ⟨rfl, xl⟩) ⟨x, ?_⟩ (((SameBut2.one (sb.trans (d3.trans ((SameBut.of s4).trans (d5.trans (.of s7))))))).trans (.two s8)) (((w5.same s7).but s8 nl.symm).mono (by omega)) ⟨vs8, hv8, ht8⟩
      rw [List.getElem?_append_right (Nat.le_refl _), Nat.sub_self]
      rfl
end
end E1

namespace E1
open PySem PySem.Spec PyProof.Rows L2
/-! ### how far the points of a net go -/
structure Bd (en : Int) (hp fp : List Int) (W : Int) : Prop where
  w0 : 0 ≤ W
  en : -W ≤ en ∧ en ≤ W
  hp : ∀ x ∈ hp, -W ≤ x ∧ x ≤ W
  fp : ∀ x ∈ fp, -W ≤ x ∧ x ≤ W
theorem Bd.re {en : Int} {hp fp : List Int} {W e : Int} (b : Bd en hp fp W) (h : e = en ∨ e ∈ fp) : Bd e hp fp W := ⟨b.w0, by
  rcases h with rfl | h
  · exact b.en
  · exact b.fp _ h, b.hp, b.fp⟩
theorem getD_bd {l : List Int} {k : Nat} {W : Int} (h : ∀ x ∈ l, -W ≤ x ∧ x ≤ W) (w : 0 ≤ W) : -W ≤ l.getD k 0 ∧ l.getD k 0 ≤ W := by
  by_cases c : k < l.length
  · refine h _ ?_
    rw [List.getD_eq_getElem?_getD, List.getElem?_eq_getElem c]
    exact List.getElem_mem _
  · rw [List.getD_eq_getElem?_getD, List.getElem?_eq_none (by omega)]
    show -W ≤ 0 ∧ (0 : Int) ≤ W
    omega
structure RowsG (hc fc : Nat) (en : Int) (hp fp : List Int) (rows : List Row) (B : Int) : Prop where
  ok : ∀ i r, rows[i]? = some r → RowOk hc fc i r
  pb : ∀ ee, (ee = en ∨ ee ∈ fp) → ∀ p ∈ ptsOf ee hp fp rows, -B ≤ p ∧ p ≤ B
theorem row_get {rows : List Row} {r r' : Row} {i : Nat} (h : (rows ++ [r'])[i]? = some r) : rows[i]? = some r ∨ (i = rows.length ∧ r = r') := by
  have := snoc_at (rows := rows) (ex := []) (r := r) (r' := r') (i := i) (by rw [List.nil_append]; exact h)
  rw [List.append_nil] at this
  exact this
section
variable {hc fc : Nat} {en : Int} {hp fp : List Int} {W R B B' M : Int}
theorem RowsG.mono {rows : List Row} (g : RowsG hc fc en hp fp rows B) (l : B ≤ B') : RowsG hc fc en hp fp rows B' :=
  ⟨g.ok, fun ee he p h => by have := g.pb ee he p h; omega⟩
theorem rowPt_bd {pts : List Int} (b : Bd en hp fp W) (wb : W ≤ B) (r0 : 0 ≤ R) (hpb : ∀ p ∈ pts, -B ≤ p ∧ p ≤ B) (r : Row) (by_ : r.by_ R) : -(B + R) ≤ rowPt en hp fp pts r ∧ rowPt en hp fp pts r ≤ B + R := by
  have w0 := b.w0
  have P : ∀ k, -B ≤ pts.getD k 0 ∧ pts.getD k 0 ≤ B := fun k => getD_bd hpb (by omega)
  have Hq : ∀ k, -W ≤ hp.getD k 0 ∧ hp.getD k 0 ≤ W := fun k => getD_bd b.hp w0
  have Fq : ∀ k, -W ≤ fp.getD k 0 ∧ fp.getD k 0 ≤ W := fun k => getD_bd b.fp w0
  cases r with
  | inn =>
    have := b.en
    show -(B + R) ≤ en ∧ en ≤ B + R
    omega
  | old k =>
    have := Hq k
    show -(B + R) ≤ hp.getD k 0 ∧ hp.getD k 0 ≤ B + R
    omega
  | times f m a =>
    have := P a
    have h : (m : Int) ≤ R := by_
    show -(B + R) ≤ pts.getD a 0 + m ∧ pts.getD a 0 + m ≤ B + R
    omega
  | plus x y =>
    have := P x
    have := P y
    show -(B + R) ≤ (if pts.getD y 0 > pts.getD x 0 then pts.getD y 0 else pts.getD x 0) ∧ (if pts.getD y 0 > pts.getD x 0 then pts.getD y 0 else pts.getD x 0) ≤ B + R
    split <;> omega
  | less x y =>
    have := P x
    have := P y
    show -(B + R) ≤ (if pts.getD y 0 > pts.getD x 0 then pts.getD y 0 else pts.getD x 0) ∧ (if pts.getD y 0 > pts.getD x 0 then pts.getD y 0 else pts.getD x 0) ≤ B + R
    split <;> omega
  | move m a =>
    have := P a
    obtain ⟨h1, h2⟩ : -R ≤ m ∧ m ≤ R := by_
    show -(B + R) ≤ pts.getD a 0 - m ∧ pts.getD a 0 - m ≤ B + R
    omega
  | keep f a =>
    have := Fq f
    show -(B + R) ≤ fp.getD f 0 ∧ fp.getD f 0 ≤ B + R
    omega
theorem RowsG.snoc {rows : List Row} {r : Row} (g : RowsG hc fc en hp fp rows B) (b : Bd en hp fp W) (wb : W ≤ B) (r0 : 0 ≤ R) (ok : RowOk hc fc rows.length r) (by_ : r.by_ R) : RowsG hc fc en hp fp (rows ++ [r]) (B + R) := by
  refine ⟨fun i x h => ?_, fun ee he p h => ?_⟩
  · rcases row_get h with h | ⟨rfl, rfl⟩
    · exact g.ok i x h
    · exact ok
  · rw [ptsOf_snoc] at h
    rcases List.mem_append.mp h with h | h
    · have := g.pb ee he p h
      omega
    · rw [List.mem_singleton.mp h]
      exact rowPt_bd (b.re he) wb r0 (g.pb ee he) r by_
theorem RowsG.keep {rows : List Row} {kd x : Nat} (g : RowsG hc fc en hp fp rows B) (b : Bd en hp fp W) (wb : W ≤ B) (hk : kd < fc) (hx : x < rows.length) : RowsG hc fc en hp fp (rows ++ [.keep kd x]) B := by
  have := g.snoc (r := .keep kd x) (R := 0) b wb (Int.le_refl _) ⟨hk, hx⟩ trivial
  exact this.mono (by omega)
theorem RowsG.begin {rows : List Row} (b : Bd en hp fp W) (h : ∀ r ∈ rows, BegOk hc r) : RowsG hc fc en hp fp rows W := by
  refine ⟨fun i r e => ?_, fun ee he p hpm => ?_⟩
  · have := h r (List.mem_of_getElem? e)
    cases r with
    | inn => trivial
    | old k => exact this
    | _ => exact this.elim
  · obtain ⟨i, hi, rfl⟩ := List.getElem_of_mem hpm
    have hl : i < rows.length := by rw [ptsOf_len] at hi; exact hi
    have e := List.getElem?_eq_getElem hl
    have e2 := accL_at (g := rowPt ee hp fp) e
    rw [← ptsOf_acc, List.getElem?_eq_getElem hi] at e2
    rw [Option.some.inj e2]
    have := h _ (List.getElem_mem hl)
    generalize rows[i] = r at *
    cases r with
    | inn => exact (b.re he).en
    | old k => exact getD_bd b.hp b.w0
    | _ => exact this.elim
theorem getD_pre {l t : List Int} {k : Nat} (h : k < l.length) : (l ++ t).getD k 0 = l.getD k 0 := by
  rw [List.getD_eq_getElem?_getD, List.getD_eq_getElem?_getD, List.getElem?_append_left h]
theorem mix_pb {rows : List Row} (m0 : 0 ≤ M) (b : Bd en hp fp W) (hb : ∀ p ∈ ptsOf en hp fp rows, -W ≤ p ∧ p ≤ W) : ∀ (n : Nat) (ex : List Row), ex.length = n → (∀ r ∈ ex, MixRow rows.length M r) → ∀ p ∈ ptsOf en hp fp (rows ++ ex), -(W + M) ≤ p ∧ p ≤ W + M := by
  have w0 := b.w0
  intro n
  induction n with
  | zero =>
    intro ex le _ p h
    rw [List.length_eq_zero_iff.mp le, List.append_nil] at h
    have := hb p h
    omega
  | succ n ih =>
    intro ex le hm p h
    obtain ⟨ex', r, rfl⟩ : ∃ ex' r, ex = ex' ++ [r] := by
      have hne : ex ≠ [] := fun z => by rw [z] at le; cases le
      exact ⟨_, _, (List.dropLast_concat_getLast hne).symm⟩
    have le' : ex'.length = n := by rw [List.length_append, List.length_singleton] at le; omega
    have ih' := ih ex' le' fun x hx => hm x (List.mem_append.mpr (.inl hx))
    rw [← List.append_assoc, ptsOf_snoc] at h
    rcases List.mem_append.mp h with h | h
    · exact ih' p h
    · rw [List.mem_singleton.mp h]
      have P : ∀ k, -(W + M) ≤ (ptsOf en hp fp (rows ++ ex')).getD k 0 ∧ (ptsOf en hp fp (rows ++ ex')).getD k 0 ≤ W + M := fun k => getD_bd ih' (by omega)
      have hr := hm r (List.mem_append.mpr (.inr (List.mem_singleton.mpr rfl)))
      cases r with
      | times f m a =>
        obtain ⟨h1, h2, _⟩ := hr
        show -(W + M) ≤ (ptsOf en hp fp (rows ++ ex')).getD a 0 + m ∧ (ptsOf en hp fp (rows ++ ex')).getD a 0 + m ≤ W + M
        obtain ⟨t, et⟩ := accL_pre (rowPt en hp fp) rows ex'
        rw [← ptsOf_acc, ← ptsOf_acc] at et
        rw [et, getD_pre (by rw [ptsOf_len]; exact h1)]
        have := getD_bd (k := a) hb w0
        omega
      | plus x y =>
        have := P x
        have := P y
        show -(W + M) ≤ (if (ptsOf en hp fp (rows ++ ex')).getD y 0 > (ptsOf en hp fp (rows ++ ex')).getD x 0 then (ptsOf en hp fp (rows ++ ex')).getD y 0 else (ptsOf en hp fp (rows ++ ex')).getD x 0) ∧ (if (ptsOf en hp fp (rows ++ ex')).getD y 0 > (ptsOf en hp fp (rows ++ ex')).getD x 0 then (ptsOf en hp fp (rows ++ ex')).getD y 0 else (ptsOf en hp fp (rows ++ ex')).getD x 0) ≤ W + M
        split <;> omega
      | less x y =>
        have := P x
        have := P y
        show -(W + M) ≤ (if (ptsOf en hp fp (rows ++ ex')).getD y 0 > (ptsOf en hp fp (rows ++ ex')).getD x 0 then (ptsOf en hp fp (rows ++ ex')).getD y 0 else (ptsOf en hp fp (rows ++ ex')).getD x 0) ∧ (if (ptsOf en hp fp (rows ++ ex')).getD y 0 > (ptsOf en hp fp (rows ++ ex')).getD x 0 then (ptsOf en hp fp (rows ++ ex')).getD y 0 else (ptsOf en hp fp (rows ++ ex')).getD x 0) ≤ W + M
        split <;> omega
      | inn => exact hr.elim
      | old k => exact hr.elim
      | move m a => exact hr.elim
      | keep f a => exact hr.elim
theorem RowsG.mix {rows ex : List Row} (m0 : 0 ≤ M) (b : Bd en hp fp W) (g : RowsG hc fc en hp fp rows W) (hm : ∀ r ∈ ex, MixRow rows.length M r) (ho : ∀ i r, (rows ++ ex)[i]? = some r → rows.length ≤ i → ∀ hc fc, RowOk hc fc i r) : RowsG hc fc en hp fp (rows ++ ex) (W + M) := by
  refine ⟨fun i r e => ?_, fun ee he => mix_pb m0 (b.re he) (g.pb ee he) _ ex rfl hm⟩
  by_cases c : i < rows.length
  · rw [List.getElem?_append_left c] at e
    exact g.ok i r e
  · exact ho i r e (by omega) _ _
end
/-! ### the heap of a law's net -/
theorem TsAt.but2 {H H' : Hp} {a l : Addr} {xs ys vs : List V} {xss : List (List V)} (h : TsAt H vs xss) (s : SameBut2 a l H H') (ha : H a = some (.lst xs)) (hl : H l = some (.lst ys)) : TsAt H' vs xss :=
  h.mono fun _ _ e => s _ _ (ne_of e ha (fun z => nomatch z)) (ne_of e hl (fun z => nomatch z)) e
theorem TL7.but2 {H H' : Hp} {a l b : Addr} {xs ys : List V} {xss : List (List V)} (h : TL7 H b xss) (s : SameBut2 a l H H') (ha : H a = some (.lst xs)) (hl : H l = some (.lst ys)) (n1 : b ≠ a) (n2 : b ≠ l) : TL7 H' b xss := by
  obtain ⟨vs, e, t⟩ := h
  exact ⟨vs, s _ _ n1 n2 e, t.but2 s ha hl⟩
def nI (n : Nat) : V := .int (n : Int)
structure NB (H G : Hp) (a kl fl ml : Addr) (ks : List Nat) (fs : List FormP) (rows : List Row) (c : Int) : Prop where
  sb : SameBut a H G
  w : WellAt G a c
  k : G kl = some (.lst (ks.map nI))
  f : TL7 G fl (fs.map FormP.vs)
  m : TL7 G ml (rows.map Row.vs)
  n1 : kl ≠ a
  n2 : fl ≠ a
  n3 : ml ≠ a
  n4 : kl ≠ ml
  n5 : fl ≠ ml
  f0 : H ml = none
section
variable {H G G' : Hp} {a kl fl ml : Addr} {ks : List Nat} {fs : List FormP} {rows rows' : List Row} {c c' : Int}
theorem NB.one (b : NB H G a kl fl ml ks fs rows c) (s : SameBut a G G') (w : WellAt G' a c') : NB H G' a kl fl ml ks fs rows c' := by
  obtain ⟨xs, hx⟩ := b.w.lst
  exact ⟨b.sb.trans s, w, s _ _ b.n1 b.k, b.f.but s hx b.n2, b.m.but s hx b.n3, b.n1, b.n2, b.n3, b.n4, b.n5, b.f0⟩
theorem NB.new (b : NB H G a kl fl ml ks fs rows c) (s : Same G G') : NB H G' a kl fl ml ks fs rows c := b.one (.of s) (b.w.same s)
theorem NB.mono (b : NB H G a kl fl ml ks fs rows c) (l : c ≤ c') : NB H G a kl fl ml ks fs rows c' := ⟨b.sb, b.w.mono l, b.k, b.f, b.m, b.n1, b.n2, b.n3, b.n4, b.n5, b.f0⟩
theorem NB.two (b : NB H G a kl fl ml ks fs rows c) (s : SameBut2 a ml G G') (w : WellAt G' a c') (m : TL7 G' ml (rows'.map Row.vs)) : NB H G' a kl fl ml ks fs rows' c' := by
  obtain ⟨xs, hx⟩ := b.w.lst
  obtain ⟨ys, hy, _⟩ := b.m
  refine ⟨fun x o n e => s x o n (fun z => ?_) (b.sb x o n e), w, s _ _ b.n1 b.n4 b.k, b.f.but2 s hx hy b.n2 b.n5, m, b.n1, b.n2, b.n3, b.n4, b.n5, b.f0⟩
  have := b.f0
  rw [← z, e] at this
  cases this
theorem NB.but {x : Addr} {ys : List V} (b : NB H G a kl fl ml ks fs rows c) (s : SameBut x G G') (hx : G x = some (.lst ys)) (h0 : H x = none) (m1 : a ≠ x) (m2 : kl ≠ x) (m3 : fl ≠ x) (m4 : ml ≠ x) : NB H G' a kl fl ml ks fs rows c := by
  refine ⟨fun y o n e => s y o (fun z => ?_) (b.sb y o n e), b.w.but s m1, s _ _ m2 b.k, b.f.but s hx m3, b.m.but s hx m4, b.n1, b.n2, b.n3, b.n4, b.n5, b.f0⟩
  rw [z, h0] at e
  cases e
end
/-- the parts of a law's net -/
def PartsAt (H : Hp) (p : Addr) (n : NetP) : Prop := ∃ fa ra ha, H p = some (.tup [.ref fa, .int n.en, .ref ra, .ref ha, .int n.out]) ∧ TL7 H fa (n.fs.map FormP.vs) ∧ TL7 H ra (n.rows.map Row.vs) ∧ TL7 H ha (n.holds.map Hold.vs)
theorem PartsAt.same {H H' : Hp} {p : Addr} {n : NetP} (h : PartsAt H p n) (s : Same H H') : PartsAt H' p n := by
  obtain ⟨fa, ra, ha, e, x, y, z⟩ := h
  exact ⟨fa, ra, ha, s _ _ e, x.same s, y.same s, z.same s⟩
theorem PartsAt.but {H H' : Hp} {p a : Addr} {n : NetP} {ys : List V} (h : PartsAt H p n) (s : SameBut a H H') (ha : H a = some (.lst ys)) (n1 : ∀ fa ra hb, H p = some (.tup [.ref fa, .int n.en, .ref ra, .ref hb, .int n.out]) → fa ≠ a ∧ ra ≠ a ∧ hb ≠ a) : PartsAt H' p n := by
  obtain ⟨fa, ra, hb, e, x, y, z⟩ := h
  obtain ⟨m1, m2, m3⟩ := n1 fa ra hb e
  exact ⟨fa, ra, hb, s _ _ (ne_of e ha (fun z => nomatch z)) e, x.but s ha m1, y.but s ha m2, z.but s ha m3⟩
def HoldOk (fs : List FormP) (rows : List Row) (h : Hold) : Prop := h.k < fs.length ∧ inR (frm fs h.k).w h.s = true ∧ h.s.natAbs < 2 ^ 70 ∧ ∃ x, rows[h.l]? = some (.keep h.k x)
theorem HoldOk.more {fs : List FormP} {rows t : List Row} {h : Hold} (k : HoldOk fs rows h) : HoldOk fs (rows ++ t) h := by
  obtain ⟨a, b, c, x, e⟩ := k
  refine ⟨a, b, c, x, ?_⟩
  rw [List.getElem?_append_left (List.getElem?_eq_some_iff.mp e).1]
  exact e
def spLNet : Sp := fun vs H Q _ => ∃ a : Addr, vs = [.ref a] ∧ WellAt H a 3 ∧ ∀ (n : NetP) (p : Addr) (H' : Hp), NetOk n → (n.fs.length ≤ 3 ∧ ∀ k, k < n.fs.length → ∀ x ∈ NetP.pts { n with en := k }, -200 ≤ x ∧ x ≤ 200) → (∀ h ∈ n.holds, h.s.natAbs < 2 ^ 70) → Mild n → n.rows.length ≤ 26 → WellAt H' a 300 → SameBut a H H' → H p = none → (∀ G, SameBut a H' G → PartsAt G p n) → Q (.ref p) H'
theorem sixR {r : Int} (h0 : 0 ≤ r) (h1 : r < 6) : ∃ R : Int, atI [V.int 5, V.int 5, V.int 20, V.int 20, V.int 20, V.int 60] r = some (.int R) ∧ 5 ≤ R ∧ R ≤ 60 ∧ (r ≠ 5 → R ≤ 20) ∧ (r < 2 → R ≤ 5) := by
  rcases (by omega : r = 0 ∨ r = 1 ∨ r = 2 ∨ r = 3 ∨ r = 4 ∨ r = 5) with rfl | rfl | rfl | rfl | rfl | rfl
  · exact ⟨5, rfl, by omega, by omega, fun _ => by omega, fun _ => by omega⟩
  · exact ⟨5, rfl, by omega, by omega, fun _ => by omega, fun _ => by omega⟩
  · exact ⟨20, rfl, by omega, by omega, fun _ => by omega, fun z => absurd z (by decide)⟩
  · exact ⟨20, rfl, by omega, by omega, fun _ => by omega, fun z => absurd z (by decide)⟩
  · exact ⟨20, rfl, by omega, by omega, fun _ => by omega, fun z => absurd z (by decide)⟩
  · exact ⟨60, rfl, by omega, by omega, (fun z => absurd rfl z), fun z => absurd z (by decide)⟩
/-- so many rows of chance -/
theorem pickN {x y so : Int} (A B : Int) (x0 : 0 ≤ x) (x1 : x < A) (y0 : 0 ≤ y) (y1 : y < B) : ∃ n : Nat, atI [V.int x, V.int y] (if decide (V.int so = V.int 5) = true then 1 else 0) = some (.int (n : Int)) ∧ (so = 5 → (n : Int) < B) ∧ (so ≠ 5 → (n : Int) < A) := by
  by_cases h : so = 5
  · refine ⟨y.toNat, ?_, fun _ => by omega, fun z => absurd h z⟩
    rw [h, decide_eq_true rfl, show ((y.toNat : Nat) : Int) = y by omega]
    exact a1
  · refine ⟨x.toNat, ?_, fun z => absurd z h, fun _ => by omega⟩
    rw [decide_eq_false (fun z => h (V.int.inj z)), show ((x.toNat : Nat) : Int) = x by omega]
    exact a0

theorem beg_small {hc : Nat} {rows : List Row} (h : ∀ r ∈ rows, BegOk hc r) : ∀ r ∈ rows, r.small := fun r hr => by
  have := h r hr
  cases r <;> first | trivial | exact this.elim
theorem mix_small {n0 : Nat} {M : Int} {ex : List Row} (h : ∀ r ∈ ex, MixRow n0 M r) : ∀ r ∈ ex, r.small := fun r hr => by
  have := h r hr
  cases r <;> first | trivial | exact this.elim | exact this.2.2
theorem app_small {a b : List Row} (ha : ∀ r ∈ a, r.small) (hb : ∀ r ∈ b, r.small) : ∀ r ∈ a ++ b, r.small := fun r hr => by
  rcases List.mem_append.mp hr with h | h
  · exact ha r h
  · exact hb r h
theorem one_small {r : Row} (h : r.small) : ∀ x ∈ [r], x.small := fun x hx => by
  rw [List.mem_singleton.mp hx]
  exact h
end E1

namespace E1
open PySem PySem.Spec PyProof.Rows L2
section
variable {P : Program} {w : World} {K : PySem.W.Frag} {mg : Str → Option Value} {base : Heap}
theorem sc__law_net : FnScope ["_law_well_here", "_law_sort", "_law_count", "_law_first", "_law_k", "_law_kinds", "_law_reach", "_law_shapes", "_law_made_here", "_law_last", "_law_links", "_law_kind", "_law_start"] ["_law_well_here"] (defScope s__law_net) := ⟨rfl, rfl, rfl, by decide +kernel, rfl, by decide +kernel, by decide +kernel⟩
theorem ok__law_net {f : Addr} {fd : FuncData} (F : Fun K "_law_net" "_law_net" s__law_net f fd) (z : Zs mg) (c__law_draw : Cal P w K mg base 1 "_law_draw" ["_law_well_here", "_law_many"] spDraw) (c__law_form : Cal P w K mg base 2 "_law_form" ["_law_well_here", "_law_free", "_law_reach"] spLForm) (c__law_word : Cal P w K mg base 2 "_law_word" ["_law_well_here", "_law_form_here"] spLWord) (c__law_row : Cal P w K mg base 2 "_law_row" ["_law_well_here", "_law_count", "_law_at", "_law_free", "_law_reach", "_law_held"] spLRow) (c__law_begin : Cal P w K mg base 2 "_law_begin" ["_law_well_here", "_law_held"] spLBegin) (c__law_mixed : Cal P w K mg base 2 "_law_mixed" ["_law_well_here", "_law_made_here", "_law_reach"] spLMixed) (c__law_link : Cal P w K mg base 2 "_law_link" ["_law_well_here", "_law_made_here", "_law_kind", "_law_last"] (spLLink K)) : FnOk P w K mg base CX0 3 f fd ["_law_well_here"] spLNet := by
  refine F.ok sc__law_net (fun vs H Q E h => ?_) (fun cdv A outer s H vs Q E hr h => ?_)
  · obtain ⟨a, rfl, _⟩ := h
    rfl
  · obtain ⟨a, rfl, hw, q⟩ := h
    refine ⟨_, (pss_cons (ps_set (i := 1) sc__law_net.nd rfl (.inr rfl) (pe_cal c__law_draw hr (pa_cons (pv 0) (pa_cons pe_int pa_nil))))
      (pss_cons (ps_set (i := 2) sc__law_net.nd rfl (.inr rfl) (pe_op op_add pe_int (pe_cal c__law_draw hr (pa_cons (pv 0) (pa_cons pe_int pa_nil)))))
      (pss_cons (ps_set (i := 3) sc__law_net.nd rfl (.inl rfl) (pe_cal c__law_draw hr (pa_cons (pv 0) (pa_cons (pv 2) pa_nil))))
      (pss_cons (ps_setLc (i := 5) (own := [("_law_k", 4)]) (g := gName 4) (tt := tYes) (te := (tCall spDraw [] E0 (tCons (tVar 0) (tCons (tVar 2) tNil)))) (by rfl) sc__law_net.nd rfl rfl (sw_true rfl rfl rfl (by decide +kernel)) (pi_range1 (by rfl) z.range (pa_cons (pe_cal c__law_draw hr (pa_cons (pv 0) (pa_cons pe_int pa_nil))) pa_nil)) (blkOk_by (own := [("_law_k", 4)]) (N := ["_law_well_here", "_law_sort", "_law_count", "_law_first", "_law_k", "_law_kinds", "_law_reach", "_law_shapes", "_law_made_here", "_law_last", "_law_links", "_law_kind", "_law_start"]) (sc := defScope s__law_net) (by decide +kernel)) (fun _ _ _ _ _ => by exact (pg_name (i := 4) sc__law_net.nd rfl (.inl rfl))) (fun _ _ _ _ _ => by exact pts_nil) (fun _ _ _ _ _ => by exact (pe_cal c__law_draw hr (pa_cons (pv 0) (pa_cons (pv 2) pa_nil)))))
      (pss_cons (ps_set (i := 6) sc__law_net.nd rfl (.inr rfl) (pe_ix ix_list (pe_lst (pa_cons pe_int (pa_cons pe_int (pa_cons pe_int (pa_cons pe_int (pa_cons pe_int (pa_cons pe_int pa_nil))))))) (pv 1) (fun _ _ => rfl)))
      (pss_cons (ps_setLc (i := 7) (own := [("_law_k", 4)]) (g := gName 4) (tt := tYes) (te := (tCall spLForm [] E0 (tCons (tVar 0) (tCons (tOp (rI0 fun i j => V.bl (decide (i < j))) (tVar 1) (tC (.int 2))) (tCons (tVar 6) tNil))))) (by rfl) sc__law_net.nd rfl rfl (sw_true rfl rfl rfl (by decide +kernel)) (pi_range1 (by rfl) z.range (pa_cons (pv 2) pa_nil)) (blkOk_by (own := [("_law_k", 4)]) (N := ["_law_well_here", "_law_sort", "_law_count", "_law_first", "_law_k", "_law_kinds", "_law_reach", "_law_shapes", "_law_made_here", "_law_last", "_law_links", "_law_kind", "_law_start"]) (sc := defScope s__law_net) (by decide +kernel)) (fun _ _ _ _ _ => by exact (pg_name (i := 4) sc__law_net.nd rfl (.inl rfl))) (fun _ _ _ _ _ => by exact pts_nil) (fun _ _ _ _ _ => by exact (pe_cal c__law_form hr (pa_cons (pv 0) (pa_cons (pe_cmpR op_lt (pv 1) pe_int (nomark _)) (pa_cons (pv 6) pa_nil))))))
      (C8.pss_cut (ps_if (PW.pt (pw_and (pt_cmpR op_gt (pv 2) pe_int (nomark _)) (pw_and1 (pt_cmpR op_eq (pe_cal c__law_draw hr (pa_cons (pv 0) (pa_cons pe_int pa_nil))) pe_int (nomark _))))) (pss_one (ps_asg (pe_ix ix_list (pv 7) pe_int (fun _ _ => rfl)) (pg_sub (pv 7) pe_int set_list))) pss_nil)
      (pss_cons (ps_set (i := 8) sc__law_net.nd rfl (.inl rfl) (pe_cal c__law_begin hr (pa_cons (pv 0) (pa_cons (pe_callB call_len_seq (by rfl) z.len PySem.boot_len (pa_cons (pv 5) pa_nil)) pa_nil))))
      (pss_cons (ps_set (i := 9) sc__law_net.nd rfl (.inl rfl) (pe_op op_sub (pe_callB call_len_seq (by rfl) z.len PySem.boot_len (pa_cons (pv 8) pa_nil)) pe_int))
      (C8.pss_cut (ps_if (pt_cmpR op_gt (pe_cal c__law_draw hr (pa_cons (pv 0) (pa_cons pe_int pa_nil))) pe_int (nomark _)) (pss_one (ps_set (i := 9) sc__law_net.nd rfl (.inl rfl) (pe_cal c__law_mixed hr (pa_cons (pv 0) (pa_cons (pv 8) (pa_cons (pe_callB (call_min2 rfl) (by rfl) z.min (by decide +kernel) (pa_cons (pv 6) (pa_cons pe_int pa_nil))) pa_nil)))))) pss_nil)
      (pss_cons (ps_for PassesOwn.never rfl (pi_range1 (by rfl) z.range (pa_cons (pe_ix ix_list (pe_lst (pa_cons (pe_cal c__law_draw hr (pa_cons (pv 0) (pa_cons pe_int pa_nil))) (pa_cons (pe_cal c__law_draw hr (pa_cons (pv 0) (pa_cons pe_int pa_nil))) pa_nil))) (pe_callTy call_int1 (by rfl) z.int (by decide +kernel) (pa_cons (pe_cmpR op_eq (pv 1) pe_int (nomark _)) pa_nil)) (fun _ _ => rfl)) pa_nil)) (pg_name (i := 4) sc__law_net.nd rfl (.inl rfl)) (pss_one (ps_expr (pe_bm PySem.F.plainAttrs_list PySem.F.slot_list_append PySem.F.type_list_append mt_append (pv 8) (pa_cons (pe_cal c__law_row hr (pa_cons (pv 0) (pa_cons (pv 2) (pa_cons (pe_callB call_len_seq (by rfl) z.len PySem.boot_len (pa_cons (pv 8) pa_nil)) (pa_cons (pe_cmpR op_lt (pv 1) pe_int (nomark _)) (pa_cons (pv 6) (pa_cons (pe_callB call_len_seq (by rfl) z.len PySem.boot_len (pa_cons (pv 5) pa_nil)) pa_nil))))))) pa_nil)))))
      (pss_cons (ps_set (i := 10) sc__law_net.nd rfl (.inl rfl) (pe_lst pa_nil))
      (pss_cons (ps_for PassesOwn.never rfl (pi_list (pv 5)) (pg_name (i := 11) sc__law_net.nd rfl (.inl rfl)) (pss_cons (ps_set (i := 12) sc__law_net.nd rfl (.inl rfl) (pe_cal c__law_word hr (pa_cons (pv 0) (pa_cons (pe_ix ix_list (pv 7) (pv 11) (fun _ _ => rfl)) pa_nil))))
      (pss_one (ps_expr (pe_bm PySem.F.plainAttrs_list PySem.F.slot_list_append PySem.F.type_list_append mt_append (pv 10) (pa_cons (pe_tup (pa_cons (pv 11) (pa_cons (pv 12) (pa_cons (pe_cal c__law_link hr (pa_cons (pv 0) (pa_cons (pv 8) (pa_cons (pv 11) (pa_cons (pv 9) pa_nil))))) pa_nil)))) pa_nil))))))
      (pss_cons (ps_for PassesOwn.never rfl (pi_range1 (by rfl) z.range (pa_cons (pe_ix ix_list (pe_lst (pa_cons (pe_cal c__law_draw hr (pa_cons (pv 0) (pa_cons pe_int pa_nil))) (pa_cons (pe_cal c__law_draw hr (pa_cons (pv 0) (pa_cons pe_int pa_nil))) pa_nil))) (pe_callTy call_int1 (by rfl) z.int (by decide +kernel) (pa_cons (pe_cmpR op_eq (pv 1) pe_int (nomark _)) pa_nil)) (fun _ _ => rfl)) pa_nil)) (pg_name (i := 4) sc__law_net.nd rfl (.inl rfl)) (pss_one (ps_expr (pe_bm PySem.F.plainAttrs_list PySem.F.slot_list_append PySem.F.type_list_append mt_append (pv 8) (pa_cons (pe_cal c__law_row hr (pa_cons (pv 0) (pa_cons (pv 2) (pa_cons (pe_callB call_len_seq (by rfl) z.len PySem.boot_len (pa_cons (pv 8) pa_nil)) (pa_cons (pe_cmpR op_lt (pv 1) pe_int (nomark _)) (pa_cons (pv 6) (pa_cons (pe_callB call_len_seq (by rfl) z.len PySem.boot_len (pa_cons (pv 5) pa_nil)) pa_nil))))))) pa_nil)))))
      (pss_one (ps_ret (pe_tup (pa_cons (pv 7) (pa_cons (pv 3) (pa_cons (pv 8) (pa_cons (pv 10) (pa_cons (pe_ix ix_list (pe_lst (pa_cons (pv 9) (pa_cons (pe_op op_sub (pe_callB call_len_seq (by rfl) z.len PySem.boot_len (pa_cons (pv 8) pa_nil)) pe_int) (pa_cons (pe_cal c__law_draw hr (pa_cons (pv 0) (pa_cons (pe_callB call_len_seq (by rfl) z.len PySem.boot_len (pa_cons (pv 8) pa_nil)) pa_nil))) pa_nil)))) (pe_cal c__law_draw hr (pa_cons (pv 0) (pa_cons pe_int pa_nil))) (fun _ _ => rfl)) pa_nil)))))))))))))))))))))), ?_⟩
    obtain ⟨wxs, hwx⟩ := hw.lst
    refine ⟨_, rfl, a, 3, 6, rfl, hw, by omega, by decide, by decide +kernel, fun r1 H1 r10 r11 d1 e1 w1 => ⟨_, rfl, a, 3 + 1, 3, rfl, w1, by omega, by decide, by decide +kernel, fun r2 H2 r20 r21 d2 e2 w2 => ⟨_, _, rfl, rfl, _, rfl, _, rfl, a, 3 + 1 + 1, 1 + r2, rfl, w2, by omega, by omega, Nat.lt_of_le_of_lt (show _ ≤ 1000 by omega) (by decide +kernel), fun r3 H3 r30 r31 d3 e3 w3 => ⟨_, rfl, a, 3 + 1 + 1 + 1, 4, rfl, w3, by omega, by decide, by decide +kernel, fun r4 H4 r40 r41 d4 e4 w4 => ⟨r4.toNat, by rw [Int.toNat_of_nonneg r40], by omega, by omega, fun kl hkl => ?_⟩⟩⟩⟩⟩
    have D4 : SameBut a H H4 := d1.trans (d2.trans (d3.trans d4))
    have nkl : kl ≠ a := w4.ne hkl
    have fkl : H kl = none := same_free D4 hwx hkl nkl
    obtain ⟨kn, ekn⟩ : ∃ n, r4.toNat = n := ⟨_, rfl⟩
    rw [ekn]
    have kn4 : kn ≤ 3 := by omega
    refine lc_it walk_range (fun i G => SameBut a H G ∧ WellAt G a (10 + i) ∧ ∃ ks : List Nat, G kl = some (.lst (ks.map nI)) ∧ ks.length = i ∧ ∀ k ∈ ks, (k : Int) < 1 + r2) ⟨D4.trans (.of (same_new hkl)), (w4.same (same_new hkl)).mono (by omega), [], upd_same, rfl, fun n x => nomatch x⟩ (fun _ _ _ _ => trivial) (fun i x G G' hi hP hY => ?_) (fun G hP => ?_)
    · obtain ⟨sb, wl, ks, hk, lk, hks⟩ := hP
      obtain ⟨rfl, rfl⟩ := hY
      refine ⟨rfl, _, rfl, _, rfl, a, 10 + i, 1 + r2, rfl, wl, by omega, by omega, Nat.lt_of_le_of_lt (show _ ≤ 1000 by omega) (by decide +kernel), fun r5 H5 r50 r51 d5 e5 w5 => ⟨_, d5 _ _ nkl hk, sl_lt (by rw [List.length_map]; omega), fun b o n e => ?_, (w5.but SameBut.upd nkl.symm).mono (by omega), ks ++ [r5.toNat], ?_, by rw [List.length_append, lk]; rfl, fun k hk2 => ?_⟩⟩
      · rw [upd_ne (ne_of_none e fkl)]
        exact d5 _ _ n (sb _ _ n e)
      · rw [upd_same, List.map_append]
        show some (HO.lst (ks.map nI ++ [V.int r5])) = some (.lst (ks.map nI ++ [V.int ((r5.toNat : Nat) : Int)]))
        rw [Int.toNat_of_nonneg r50]
      · rcases List.mem_append.mp hk2 with hk2 | hk2
        · exact hks k hk2
        · rw [List.mem_singleton.mp hk2]
          omega
    obtain ⟨sb, wl, ks, hk, lk, hks⟩ := hP
    clear D4 d1 d2 d3 d4 e1 e2 e3 e4 w1 w2 w3 w4
    refine ⟨(by show 6 ≤ sizeLine; decide), fun l6 hl6 => ?_⟩
    generalize hG6 : upd _ l6 _ = G6
    obtain ⟨s6, h_l6⟩ := upd_gen hG6 hl6
    obtain ⟨R, iR, R0, R1, R2, R3⟩ := sixR r10 r11
    refine ⟨_, rfl, l6, _, r1, _, rfl, rfl, SqL.of h_l6, iR, ?_⟩
    replace sb := sb.trans (.of s6)
    replace wl := wl.same s6
    replace hk := s6 _ _ hk
    refine ⟨_, rfl, (1 + r2).toNat, by rw [Int.toNat_of_nonneg (by omega)], by omega, by omega, fun fl hfl => ?_⟩
    have nfl : fl ≠ a := wl.ne hfl
    have ffl : H fl = none := same_free sb hwx hfl nfl
    have nkf : kl ≠ fl := ne_of_none hk hfl
    refine lc_it walk_range (fun i G => SameBut a H G ∧ WellAt G a (20 + 7 * i) ∧ G kl = some (.lst (ks.map nI)) ∧ ∃ (fv : List V) (fs : List FormP), G fl = some (.lst fv) ∧ TsAt G fv (fs.map FormP.vs) ∧ fs.length = i ∧ ∀ f ∈ fs, f.Ok ∧ (-R - 2 ≤ f.pt ∧ f.pt ≤ R + 2) ∧ (¬ r1 < 2 → f.w ≠ none)) ⟨sb.trans (.of (same_new hfl)), (wl.same (same_new hfl)).mono (by omega), same_new hfl _ _ hk, [], [], upd_same, .nil, rfl, fun n x => nomatch x⟩ (fun _ _ _ _ => trivial) (fun i x G2 G' hi hP hY => ?_) (fun G2 hP => ?_)
    · obtain ⟨sb, wl, hk, fv, fs, hf, tf, lf, hfo⟩ := hP
      obtain ⟨rfl, rfl⟩ := hY
      obtain ⟨gx, hgx⟩ := wl.lst
      have ltf := tf.len
      rw [List.length_map] at ltf
      refine ⟨rfl, _, rfl, _, rfl, _, _, rfl, rfl, _, rfl, a, _, R, 20 + 7 * i, rfl, by omega, by omega, wl, by omega, by omega, fun f p G3 fok fwn p0 p1 s2 w2 np hpn hp2 => ?_⟩
      have hf2 := s2 _ _ nfl hf
      refine ⟨_, hf2, sl_lt (by omega), fun b o n e => ?_, (w2.but SameBut.upd nfl.symm).mono (by omega), by rw [upd_ne nkf]; exact s2 _ _ nkl hk, fv ++ [.ref p], fs ++ [f], upd_same, ?_, by rw [List.length_append, lf]; rfl, fun x hx => ?_⟩
      · rw [upd_ne (ne_of_none e ffl)]
        exact s2 _ _ n (sb _ _ n e)
      · rw [List.map_append]
        exact TsAt.push hf2 (tf.but s2 hgx) hp2
      · rcases List.mem_append.mp hx with hx | hx
        · exact hfo x hx
        · rw [List.mem_singleton.mp hx]
          exact ⟨fok, ⟨p0, p1⟩, fun z => fwn (decide_eq_false z)⟩
    obtain ⟨sb2, wl2, hk2, fv, fs, hf, tf, lf, hfo⟩ := hP
    clear sb wl hk
    obtain ⟨fc, efc⟩ : ∃ n : Nat, 1 + r2 = (n : Int) := ⟨(1 + r2).toNat, by omega⟩
    obtain ⟨en, rfl⟩ : ∃ n : Nat, r3 = (n : Int) := ⟨r3.toNat, by omega⟩
    obtain ⟨so, eso⟩ : ∃ s : Int, s = r1 := ⟨_, rfl⟩
    have lf2 : fs.length = fc := by omega
    rw [← eso] at hfo
    have fc3 : fc ≤ 3 := by omega
    have fc1 : 1 ≤ fc := by omega
    have enl : en < fc := by omega
    replace hks : ∀ k ∈ ks, k < fc := fun k hx => by have := hks k hx; omega
    refine ⟨fun σ G => ∃ fs : List FormP, σ = [some (.ref a), some (.int so), some (.int (fc : Int)), some (.int (en : Int)), none, some (.ref kl), some (.int R), some (.ref fl), none, none, none, none, none] ∧ SameBut a H G ∧ WellAt G a 60 ∧ G kl = some (.lst (ks.map nI)) ∧ TL7 G fl (fs.map FormP.vs) ∧ fs.length = fc ∧ (∀ f ∈ fs, f.Ok ∧ (-R - 2 ≤ f.pt ∧ f.pt ≤ R + 2) ∧ (¬ so < 2 → f.w ≠ none)), ?_, fun σ G hM => ?_⟩
    · refine ⟨_, rfl, _, _, rfl, rfl, _, rfl, ite2 (fun gt => ?_) (fun _ => ⟨fs, by rw [← efc, eso]; rfl, sb2, wl2.mono (by omega), hk2, ⟨fv, hf, tf⟩, lf2, hfo⟩)⟩
      have gt2 : 1 + r2 > 1 := toB gt
      obtain ⟨gx, hgx⟩ := wl2.lst
      refine ⟨_, rfl, a, 20 + 7 * ((1 + r2).toNat : Nat), 4, rfl, wl2, by omega, by decide, by decide +kernel, fun r7 H7 r70 r71 d7 e7 w7 => ⟨rfl, _, rfl, ite2 (fun _ => ?_) (fun _ => ⟨fs, by rw [← efc, eso]; rfl, sb2.trans d7, w7.mono (by omega), d7 _ _ nkl hk2, ⟨fv, d7 _ _ nfl hf, tf.but d7 hgx⟩, lf2, hfo⟩)⟩⟩
      match fs, tf, lf2, hfo with
      | f0 :: f1 :: ft, .cons (p := p0) x0 (.cons (p := p1) (vs := fvt) x1 xt), lf2, hfo =>
        have hf7 := d7 _ _ nfl hf
        refine ⟨_, rfl, fl, _, 0, .ref p0, rfl, rfl, SqL.of hf7, a0, _, rfl, fl, _, 1, 1, rfl, rfl, hf7, ?_, f0 :: f0 :: ft, by rw [← efc, eso]; rfl, ?_, ?_, ?_, ⟨_, upd_same, ?_⟩, lf2, fun x hx => ?_⟩
        · show ixN (fvt.length + 1 + 1) 1 = some 1
          unfold ixN
          rw [if_pos (by decide), if_pos (by omega)]
          rfl
        · intro b o n e
          rw [upd_ne (ne_of_none e ffl)]
          exact d7 _ _ n (sb2 _ _ n e)
        · exact (w7.but SameBut.upd nfl.symm).mono (by omega)
        · rw [upd_ne nkf]
          exact d7 _ _ nkl hk2
        · have x0' := d7 _ _ (ne_of x0 hgx (fun z => nomatch z)) x0
          have TT := TsAt.cons x0' (.cons x0' (xt.but d7 hgx))
          exact TT.but SameBut.upd hf7
        · rcases List.mem_cons.mp hx with rfl | hx
          · exact hfo _ (List.mem_cons_self ..)
          · rcases List.mem_cons.mp hx with rfl | hx
            · exact hfo _ (List.mem_cons_self ..)
            · exact hfo x (List.mem_cons_of_mem _ (List.mem_cons_of_mem _ hx))
      | [f0], _, lf2, _ => exact absurd lf2 (by show ¬ (1 = fc); omega)
      | [], _, lf2, _ => exact absurd lf2 (by show ¬ (0 = fc); omega)
    have so0 : 0 ≤ so := by omega
    have so1 : so < 6 := by omega
    replace R2 : so ≠ 5 → R ≤ 20 := fun z => R2 (by omega)
    replace R3 : so < 2 → R ≤ 5 := fun z => R3 (by omega)
    clear sb2 wl2 hk2 hf tf lf hfo lf2 fv fs iR h_l6 hl6 s6 hG6 efc eso ekn hfl hkl
    obtain ⟨fs, rfl, sb, w0, hk, ⟨fv, hf, tf⟩, lf, hfo⟩ := hM
    obtain ⟨gx, hgx⟩ := w0.lst
    have lks : ks.length ≤ 3 := by omega
    refine ⟨_, rfl, _, rfl, kl, _, rfl, .inl (SqL.of hk), a, _, 60, rfl, by rw [List.length_map]; omega, w0, by omega, by omega, fun rows ml G2 hbg l1 l6 s2 w2 nml hml tml => ?_⟩
    rw [List.length_map] at hbg
    have b : NB H G2 a kl fl ml ks fs rows 80 := ⟨sb.trans s2, w2, s2 _ _ nkl hk, ⟨fv, s2 _ _ nfl hf, tf.but s2 hgx⟩, tml, nkl, nfl, nml, ne_of_none hk hml, ne_of_none hf hml, same_free sb hwx hml nml⟩
    have bd : Bd (fpt fs en) (ks.map (fpt fs)) (fs.map (·.pt)) (R + 2) := by
      have hf' : ∀ x ∈ fs.map (·.pt), -(R + 2) ≤ x ∧ x ≤ R + 2 := fun x hx => by
        obtain ⟨f, hfm, rfl⟩ := List.mem_map.mp hx
        have := (hfo f hfm).2.1
        omega
      exact ⟨by omega, getD_bd hf' (by omega), fun x hx => by
        obtain ⟨k, _, rfl⟩ := List.mem_map.mp hx
        exact getD_bd hf' (by omega), hf'⟩
    have g0 : RowsG ks.length fc (fpt fs en) (ks.map (fpt fs)) (fs.map (·.pt)) rows (R + 2) := RowsG.begin bd hbg
    have Rn : ∀ i : Nat, 0 ≤ R * (i : Int) := fun i => Int.mul_nonneg (by omega) (by omega)
    clear s2 w2 tml sb w0 hk hf tf hgx
    obtain ⟨mv, hmv, tmv⟩ := id b.m
    have lmv := tmv.rlen
    refine ⟨_, rfl, ml, _, rfl, .inl (SqL.of hmv), _, _, rfl, rfl, ?_⟩
    refine ⟨fun σ G => ∃ (rows : List Row) (last : Nat), σ = [some (.ref a), some (.int so), some (.int (fc : Int)), some (.int (en : Int)), none, some (.ref kl), some (.int R), some (.ref fl), some (.ref ml), some (.int (last : Int)), none, none, none] ∧ NB H G a kl fl ml ks fs rows 110 ∧ RowsG ks.length fc (fpt fs en) (ks.map (fpt fs)) (fs.map (·.pt)) rows (R + 8) ∧ last < rows.length ∧ rows.length ≤ 16 ∧ (∀ r ∈ rows, r.small), ?_, fun σ G hM => ?_⟩
    · have e : (mv.length : Int) - 1 = ((rows.length - 1 : Nat) : Int) := by omega
      refine ⟨_, rfl, a, 80, 3, rfl, b.w, by omega, by decide, by decide +kernel, fun r1 H1 r10 r11 d1 e1 w1 => ⟨_, _, rfl, rfl, _, rfl, ite2 (fun _ => ?_) (fun _ => ⟨rows, rows.length - 1, by rw [← e]; rfl, (b.one d1 w1).mono (by omega), g0.mono (by omega), by omega, by omega, beg_small hbg⟩)⟩⟩
      have b1 := b.one d1 w1
      refine ⟨_, rfl, _, rfl, _, rfl, _, _, rfl, a, ml, rows, if (6 : Int) < R then 6 else R, 80 + 1, rfl, b1.m, b1.n3, by split <;> omega, by split <;> omega, l1, l6, b1.w, by omega, by omega, fun ex last G3 hm ho hl le sb2 w2 tl => ?_⟩
      exact ⟨rows ++ ex, last, rfl, (b1.two sb2 w2 tl).mono (by omega), (RowsG.mix (by split <;> omega) bd g0 hm ho).mono (by split <;> omega), hl, by rw [List.length_append]; omega, app_small (beg_small hbg) (mix_small hm)⟩
    clear b g0 hmv tmv lmv mv hbg l1 l6 hml
    obtain ⟨rows1, last, rfl, b, RG1, hla, lr1, sm1⟩ := hM
    refine ⟨_, rfl, a, 110, 6, rfl, b.w, by omega, by decide, by decide +kernel, fun r51 H51 r510 r511 d51 e51 w51 => ⟨_, rfl, a, 110 + 1, 2, rfl, w51, by omega, by decide, by decide +kernel, fun r52 H52 r520 r521 d52 e52 w52 => ⟨(by show 2 ≤ sizeLine; decide), fun lx hlx => ?_⟩⟩⟩
    generalize hGx : upd _ lx _ = Gx1
    obtain ⟨sx1, h_lx⟩ := upd_gen hGx hlx
    obtain ⟨n1, in1, na1, nb1⟩ := pickN (so := so) 6 2 r510 r511 r520 r521
    have bx1 := ((b.one d51 w51).one d52 w52).new sx1
    refine ⟨_, rfl, rfl, .inr ⟨_, rfl, lx, _, _, .int (n1 : Int), rfl, rfl, SqL.of h_lx, in1, n1, rfl, by omega, by omega, ?_⟩⟩
    refine for_it walk_range (fun i σ G => ∃ (rows3 : List Row) (y4 : Option V), σ = [some (.ref a), some (.int so), some (.int (fc : Int)), some (.int (en : Int)), y4, some (.ref kl), some (.int R), some (.ref fl), some (.ref ml), some (.int (last : Int)), none, none, none] ∧ NB H G a kl fl ml ks fs rows3 (120 + 10 * i) ∧ RowsG ks.length fc (fpt fs en) (ks.map (fpt fs)) (fs.map (·.pt)) rows3 (R + 8 + R * i) ∧ rows3.length = rows1.length + i ∧ (∃ t, rows3 = rows1 ++ t) ∧ (so < 2 → ∀ r ∈ rows3, r.small)) ⟨rows1, none, rfl, bx1.mono (by omega), RG1.mono (by omega), rfl, ⟨[], (List.append_nil _).symm⟩, fun _ => sm1⟩ (fun _ _ _ _ _ => trivial) (fun i x σ G G' hi hP hY => ?_) (fun σ G hP => ?_)
    · obtain ⟨rows3, y4, rfl, b, rg, lr, ⟨t, et⟩, sm⟩ := hP
      obtain ⟨rfl, rfl⟩ := hY
      obtain ⟨mv, hmv, tmv⟩ := id b.m
      have lmv := tmv.rlen
      have i10 : i < 10 := by omega
      refine ⟨_, rfl, .inl ⟨rfl, _, SqL.of hmv⟩, _, rfl, _, rfl, _, rfl, ml, _, rfl, .inl (SqL.of hmv), _, rfl, _, _, rfl, rfl, _, rfl, _, rfl, kl, _, rfl, .inl (SqL.of b.k), a, fc, _, _, _, R, 120 + 10 * i, rfl, by omega, by omega, by omega, by omega, by omega, by omega, by rw [List.length_map]; omega, b.w, by omega, by omega, fun r p G2 rok rby rsm s2 w2 np hpn hp2 => ?_⟩
      have b1 := b.one s2 w2
      obtain ⟨gx, hgx⟩ := b.w.lst
      have hm2 := s2 _ _ b.n3 hmv
      have tm2 := tmv.but s2 hgx
      rw [List.length_map, lmv] at rok
      refine ⟨ml, _, _, rfl, rfl, hm2, sl_lt (by omega), rows3 ++ [r], _, rfl, (b1.two (SameBut2.two SameBut.upd) (b1.w.but SameBut.upd b.n3.symm) (TL7.push hm2 tm2 hp2)).mono (by omega), (rg.snoc bd (by have := Rn i; have := Rn i; omega) (by omega) rok rby).mono (by rw [Int.natCast_add, Int.mul_add]; omega), by rw [List.length_append, List.length_singleton, lr]; omega, ⟨t ++ [r], by rw [et, List.append_assoc]⟩, fun z => app_small (sm z) (one_small (rsm (decide_eq_true z)))⟩
    obtain ⟨rows2, y4, rfl, b2, RG, lr2, ⟨t2, et2⟩, sm2⟩ := hP
    have RB1 : R * (n1 : Int) ≤ 100 := by
      by_cases h5 : so = 5
      · have := na1 h5
        rcases (by omega : n1 = 0 ∨ n1 = 1) with rfl | rfl
        · show R * 0 ≤ 100
          omega
        · show R * 1 ≤ 100
          omega
      · have := nb1 h5
        have := R2 h5
        rcases (by omega : n1 = 0 ∨ n1 = 1 ∨ n1 = 2 ∨ n1 = 3 ∨ n1 = 4 ∨ n1 = 5) with rfl | rfl | rfl | rfl | rfl | rfl
        · show R * 0 ≤ 100
          omega
        · show R * 1 ≤ 100
          omega
        · show R * 2 ≤ 100
          omega
        · show R * 3 ≤ 100
          omega
        · show R * 4 ≤ 100
          omega
        · show R * 5 ≤ 100
          omega
    have n15 : n1 ≤ 5 := by
      by_cases h5 : so = 5
      · have := na1 h5
        omega
      · have := nb1 h5
        omega
    replace b2 := b2.mono (c' := 180) (by omega)
    refine ⟨(by show 0 ≤ sizeLine; decide), fun ll hll => ?_⟩
    generalize hG9 : upd _ ll _ = G9
    obtain ⟨s9, h_ll⟩ := upd_gen hG9 hll
    have nla : ll ≠ a := b2.w.ne hll
    have f_ll : H ll = none := same_free b2.sb hwx hll nla
    have nlk : kl ≠ ll := ne_of_none b2.k hll
    have nlf : fl ≠ ll := by
      obtain ⟨fv2, hf2, _⟩ := b2.f
      exact ne_of_none hf2 hll
    have nlm : ml ≠ ll := by
      obtain ⟨fv2, hf2, _⟩ := b2.m
      exact ne_of_none hf2 hll
    have b9 := b2.new s9
    refine ⟨_, rfl, kl, rfl, ⟨_, SqL.of b9.k⟩, ?_⟩
    refine for_it (walk_list (K := K) (a := kl) (xs := ks.map nI)) (fun i σ G => ∃ (rows3 : List Row) (hs : List Hold) (y11 y12 : Option V), σ = [some (.ref a), some (.int so), some (.int (fc : Int)), some (.int (en : Int)), y4, some (.ref kl), some (.int R), some (.ref fl), some (.ref ml), some (.int (last : Int)), some (.ref ll), y11, y12] ∧ NB H G a kl fl ml ks fs rows3 (180 + 12 * i) ∧ RowsG ks.length fc (fpt fs en) (ks.map (fpt fs)) (fs.map (·.pt)) rows3 (R + 8 + R * n1) ∧ (so < 2 → ∀ r ∈ rows3, r.small) ∧ rows3.length ≤ 21 + i ∧ last < rows3.length ∧ TL7 G ll (hs.map Hold.vs) ∧ hs.map (·.k) = ks.take i ∧ ∀ h ∈ hs, HoldOk fs rows3 h) ⟨rows2, [], none, none, rfl, b9.mono (by omega), RG, sm2, by omega, by omega, ⟨[], h_ll, .nil⟩, rfl, fun h x => nomatch x⟩ (fun i σ G hi hP => ?_) (fun i x σ G G' hi hP hY => ?_) (fun σ G hP => ?_)
    · obtain ⟨rows3, hs, y11, y12, rfl, b, _⟩ := hP
      exact SqL.of b.k
    · obtain ⟨rows3, hs, y11, y12, rfl, b, rg, sm3, lr3, la3, ⟨lv, hlv, tlv⟩, hke, hho⟩ := hP
      obtain ⟨rfl, hx⟩ := hY
      rw [List.getElem?_map] at hx
      obtain ⟨kd, ekd, rfl⟩ := Option.map_eq_some_iff.mp hx
      have i3 : i < ks.length := (List.getElem?_eq_some_iff.mp ekd).1
      have kdl : kd < fs.length := by
        have := hks kd (List.mem_of_getElem? ekd)
        omega
      have ef := List.getElem?_eq_getElem kdl
      have efrm := frm_at ef
      generalize fs[kd] = f at ef efrm
      obtain ⟨fv, hfv, tfv⟩ := id b.f
      obtain ⟨fp, ep, hfp⟩ := tfv.at (i := kd) (xs := f.vs) (by rw [List.getElem?_map, ef]; rfl)
      refine ⟨_, rfl, _, rfl, _, rfl, fl, _, _, .ref fp, rfl, rfl, SqL.of hfv, atI_nat ep, a, fp, f, 180 + 12 * i, rfl, hfp, (hfo f (List.mem_of_getElem? ef)).1, b.w, by omega, by omega, fun s G2 hin sz s2 w2 => ?_⟩
      obtain ⟨gx, hgx⟩ := b.w.lst
      have b3 := b.one s2 w2
      have hlv2 := s2 _ _ nla hlv
      have tlv2 := tlv.but s2 hgx
      obtain ⟨gx3, hgx3⟩ := b3.w.lst
      obtain ⟨mv3, hmv3, tmv3⟩ := id b3.m
      refine ⟨_, rfl, .inl ⟨rfl, _, SqL.of hlv2⟩, _, rfl, _, rfl, _, rfl, _, rfl, _, rfl, _, rfl, a, ml, rows3, kd, last, 180 + 12 * i + 5, rfl, b3.m, b3.n3, la3, by omega, b3.w, by omega, by omega, fun ex j x G3 hex hj sb3 w3 tl3 => ⟨(by show 3 ≤ sizeLine; decide), fun p hp => ?_⟩⟩
      have hlv3 := sb3 _ _ nla nlm.symm hlv2
      have tlv3 := tlv2.but2 sb3 hgx3 hmv3
      have b4 := b3.two sb3 w3 tl3
      generalize hGp : upd _ p _ = G5
      obtain ⟨s5, h_p⟩ := upd_gen hGp hp
      have hlv5 := s5 _ _ hlv3
      have b5 := b4.new s5
      have lhs : hs.length = i := by
        have := congrArg List.length hke
        rw [List.length_map, List.length_take] at this
        omega
      have llv := tlv.len
      rw [List.length_map] at llv
      have smx : ∀ r ∈ ex, r.small := by
        rcases hex with rfl | ⟨rfl, _⟩
        · exact fun r hr => (List.not_mem_nil hr).elim
        · exact one_small trivial
      refine ⟨ll, _, _, rfl, rfl, hlv5, sl_lt (by omega), rows3 ++ ex, hs ++ [⟨kd, s, j⟩], _, _, rfl, (b5.but SameBut.upd hlv5 f_ll nla.symm nlk nlf nlm).mono (by omega), ?_, (fun z => app_small (sm3 z) smx), ?_, ?_, ⟨_, upd_same, ?_⟩, ?_, fun h hh => ?_⟩
      · rcases hex with rfl | ⟨rfl, hx⟩
        · rw [List.append_nil]
          exact rg
        · exact rg.keep bd (by have := Rn n1; omega) (by omega) hx
      · rw [List.length_append]
        rcases hex with rfl | ⟨rfl, _⟩
        · rw [List.length_nil]
          omega
        · rw [List.length_singleton]
          omega
      · rw [List.length_append]
        omega
      · rw [List.map_append]
        exact TsAt.push hlv5 (tlv3.same s5) h_p
      · rw [List.map_append, hke, List.take_add_one, ekd]
        rfl
      · rcases List.mem_append.mp hh with hh | hh
        · exact (hho h hh).more
        · rw [List.mem_singleton.mp hh]
          refine ⟨kdl, ?_, sz, hj⟩
          show inR (frm fs kd).w s = true
          rw [efrm]
          exact hin
    obtain ⟨rows4, hs, y11, y12, rfl, b4, RG2, sm4, lr4, la4, ⟨lv, hlv, tlv⟩, hke, hho⟩ := hP
    rw [List.length_map, List.take_length] at hke
    rw [List.length_map] at lr4 b4
    replace b4 := b4.mono (c' := 216) (by omega)
    clear b2 b9 RG b bx1 RG1
    have lhs : hs.length = ks.length := by
      have := congrArg List.length hke
      rw [List.length_map] at this
      exact this
    obtain ⟨gx4, hgx4⟩ := b4.w.lst
    refine ⟨_, rfl, a, 216, 3, rfl, b4.w, by omega, by decide, by decide +kernel, fun r51 H51 r510 r511 d51 e51 w51 => ⟨_, rfl, a, 216 + 1, 2, rfl, w51, by omega, by decide, by decide +kernel, fun r52 H52 r520 r521 d52 e52 w52 => ⟨(by show 2 ≤ sizeLine; decide), fun lx hlx => ?_⟩⟩⟩
    generalize hGx : upd _ lx _ = Gx2
    obtain ⟨sx2, h_lx⟩ := upd_gen hGx hlx
    obtain ⟨n2, in2, na2, nb2⟩ := pickN (so := so) 3 2 r510 r511 r520 r521
    have bx2 := ((b4.one d51 w51).one d52 w52).new sx2
    refine ⟨_, rfl, rfl, .inr ⟨_, rfl, lx, _, _, .int (n2 : Int), rfl, rfl, SqL.of h_lx, in2, n2, rfl, by omega, by omega, ?_⟩⟩
    obtain ⟨gx5, hgx5⟩ := w51.lst
    have hlv6 := sx2 _ _ (d52 _ _ nla (d51 _ _ nla hlv))
    have tlv6 := ((tlv.but d51 hgx4).but d52 hgx5).same sx2
    refine for_it walk_range (fun i σ G => ∃ (rows3 : List Row) (y4 : Option V), σ = [some (.ref a), some (.int so), some (.int (fc : Int)), some (.int (en : Int)), y4, some (.ref kl), some (.int R), some (.ref fl), some (.ref ml), some (.int (last : Int)), (some (.ref ll)), y11, y12] ∧ NB H G a kl fl ml ks fs rows3 (220 + 10 * i) ∧ RowsG ks.length fc (fpt fs en) (ks.map (fpt fs)) (fs.map (·.pt)) rows3 (R + 8 + R * n1 + R * i) ∧ rows3.length = rows4.length + i ∧ (∃ t, rows3 = rows4 ++ t) ∧ (so < 2 → ∀ r ∈ rows3, r.small) ∧ TL7 G ll (hs.map Hold.vs)) ⟨rows4, y4, rfl, bx2.mono (by omega), RG2.mono (by omega), rfl, ⟨[], (List.append_nil _).symm⟩, sm4, ⟨lv, hlv6, tlv6⟩⟩ (fun _ _ _ _ _ => trivial) (fun i x σ G G' hi hP hY => ?_) (fun σ G hP => ?_)
    · obtain ⟨rows3, y4, rfl, b, rg, lr, ⟨t, et⟩, sm, ⟨lv, hlv, tlv⟩⟩ := hP
      obtain ⟨rfl, rfl⟩ := hY
      obtain ⟨mv, hmv, tmv⟩ := id b.m
      have lmv := tmv.rlen
      have i10 : i < 10 := by omega
      refine ⟨_, rfl, .inl ⟨rfl, _, SqL.of hmv⟩, _, rfl, _, rfl, _, rfl, ml, _, rfl, .inl (SqL.of hmv), _, rfl, _, _, rfl, rfl, _, rfl, _, rfl, kl, _, rfl, .inl (SqL.of b.k), a, fc, _, _, _, R, 220 + 10 * i, rfl, by omega, by omega, by omega, by omega, by omega, by omega, by rw [List.length_map]; omega, b.w, by omega, by omega, fun r p G2 rok rby rsm s2 w2 np hpn hp2 => ?_⟩
      have b1 := b.one s2 w2
      obtain ⟨gx, hgx⟩ := b.w.lst
      have hm2 := s2 _ _ b.n3 hmv
      have tm2 := tmv.but s2 hgx
      rw [List.length_map, lmv] at rok
      refine ⟨ml, _, _, rfl, rfl, hm2, sl_lt (by omega), rows3 ++ [r], _, rfl, (b1.two (SameBut2.two SameBut.upd) (b1.w.but SameBut.upd b.n3.symm) (TL7.push hm2 tm2 hp2)).mono (by omega), (rg.snoc bd (by have := Rn i; have := Rn n1; omega) (by omega) rok rby).mono (by rw [Int.natCast_add, Int.mul_add]; omega), by rw [List.length_append, List.length_singleton, lr]; omega, ⟨t ++ [r], by rw [et, List.append_assoc]⟩, (fun z => app_small (sm z) (one_small (rsm (decide_eq_true z)))), ⟨lv, by rw [upd_ne nlm.symm]; exact s2 _ _ nla hlv, (tlv.but s2 hgx).but SameBut.upd hm2⟩⟩
    obtain ⟨rows5, y4, rfl, b5, RG5, lr5, ⟨t5, et5⟩, sm5, ⟨lv5, hlv5, tlv5⟩⟩ := hP
    replace RG5 : RowsG ks.length fc (fpt fs en) (ks.map (fpt fs)) (fs.map (·.pt)) rows5 (R + 8 + R * (n1 : Int) + R * (n2 : Int)) := RG5
    have RB2 : R * (n2 : Int) ≤ 60 := by
      by_cases h5 : so = 5
      · have := na2 h5
        rcases (by omega : n2 = 0 ∨ n2 = 1) with rfl | rfl
        · show R * 0 ≤ 60
          omega
        · show R * 1 ≤ 60
          omega
      · have := nb2 h5
        have := R2 h5
        rcases (by omega : n2 = 0 ∨ n2 = 1 ∨ n2 = 2) with rfl | rfl | rfl
        · show R * 0 ≤ 60
          omega
        · show R * 1 ≤ 60
          omega
        · show R * 2 ≤ 60
          omega
    have RB3 : R + 8 + R * (n1 : Int) + R * (n2 : Int) ≤ 200 := by
      by_cases h5 : so = 5
      · have := na1 h5
        rcases (by omega : n1 = 0 ∨ n1 = 1) with rfl | rfl
        · show R + 8 + R * 0 + R * (n2 : Int) ≤ 200
          omega
        · show R + 8 + R * 1 + R * (n2 : Int) ≤ 200
          omega
      · have := R2 h5
        omega
    have n23 : n2 ≤ 3 := by
      by_cases h5 : so = 5
      · have := na2 h5
        omega
      · have := nb2 h5
        omega
    replace b5 := b5.mono (c' := 250) (by omega)
    obtain ⟨mv, hmv, tmv⟩ := id b5.m
    have lmv := tmv.rlen
    refine ⟨_, rfl, _, rfl, _, rfl, _, rfl, _, rfl, _, rfl, ml, _, rfl, .inl (SqL.of hmv), _, _, rfl, rfl, _, rfl, _, rfl, ml, _, rfl, .inl (SqL.of hmv), a, 250, _, rfl, b5.w, by omega, by omega, Nat.lt_of_le_of_lt (show _ ≤ 1000 by omega) (by decide +kernel), fun r61 H61 r610 r611 d61 e61 w61 => ⟨(by show 3 ≤ sizeLine; decide), fun lx hlx => ?_⟩⟩
    generalize hGx : upd _ lx _ = G7
    obtain ⟨s7, h_lx⟩ := upd_gen hGx hlx
    have b7 := (b5.one d61 w61).new s7
    refine ⟨_, rfl, a, 250 + 1, 3, rfl, b7.w, by omega, by decide, by decide +kernel, fun r62 H62 r620 r621 d62 e62 w62 => ?_⟩
    obtain ⟨v, i3, o3⟩ := threeI (x := V.int last) (y := V.int ((mv.length : Int) - 1)) (z := V.int r61) r620 r621
    obtain ⟨out, rfl, outl⟩ : ∃ x : Nat, v = .int (x : Int) ∧ x < rows5.length := by
      rcases o3 with rfl | rfl | rfl
      · exact ⟨_, rfl, by omega⟩
      · exact ⟨rows5.length - 1, by congr 1; omega, by omega⟩
      · exact ⟨r61.toNat, by congr 1; omega, by omega⟩
    have nlx : lx ≠ a := w61.ne hlx
    refine ⟨lx, _, _, _, rfl, rfl, SqL.of (d62 _ _ nlx h_lx), i3, (by show 5 ≤ sizeLine; decide), fun p hp => ?_⟩
    generalize hGp : upd _ p _ = G8
    obtain ⟨s8, h_p⟩ := upd_gen hGp hp
    have b8 := (b7.one d62 w62).new s8
    have np : p ≠ a := w62.ne hp
    obtain ⟨gx5, hgx5⟩ := b5.w.lst
    obtain ⟨gx7, hgx7⟩ := b7.w.lst
    have lhs2 : (⟨fs, en, rows5, hs, out⟩ : NetP).holds.length = ks.length := lhs
    have hpe : hpts ⟨fs, en, rows5, hs, out⟩ = ks.map (fpt fs) := by
      unfold hpts
      rw [← hke, List.map_map]
      rfl
    obtain ⟨gx8, hgx8⟩ := b8.w.lst
    have mild : Mild ⟨fs, en, rows5, hs, out⟩ := by
      by_cases z : so < 2
      · have r5 := R3 z
        have n5 := nb1 (by omega)
        have m3 := nb2 (by omega)
        have q1 : R * (n1 : Int) ≤ 25 := by
          have := Int.mul_le_mul (show R ≤ 5 by omega) (show (n1 : Int) ≤ 5 by omega) (by omega) (by omega)
          omega
        have q2 : R * (n2 : Int) ≤ 10 := by
          have := Int.mul_le_mul (show R ≤ 5 by omega) (show (n2 : Int) ≤ 2 by omega) (by omega) (by omega)
          omega
        refine .inr ⟨sm5 z, fun p hp => ?_, fun f hfm => ?_, by show rows5.length ≤ 27; omega⟩
        · have e : NetP.pts ⟨fs, en, rows5, hs, out⟩ = ptsOf (fpt fs en) (ks.map (fpt fs)) (fs.map (·.pt)) rows5 := by
            unfold NetP.pts
            rw [hpe]
          rw [e] at hp
          have := RG5.pb _ (.inl rfl) p hp
          omega
        · have := (hfo f hfm).2.1
          omega
      · exact .inl fun f hfm => (hfo f hfm).2.2 z
    have more : fs.length ≤ 3 ∧ ∀ k, k < fs.length → ∀ x ∈ NetP.pts ⟨fs, k, rows5, hs, out⟩, -200 ≤ x ∧ x ≤ 200 := ⟨by omega, fun k hk x hx => by
      have e : NetP.pts ⟨fs, k, rows5, hs, out⟩ = ptsOf (fpt fs k) (ks.map (fpt fs)) (fs.map (·.pt)) rows5 := by
        unfold NetP.pts
        rw [show hpts ⟨fs, k, rows5, hs, out⟩ = ks.map (fpt fs) from hpe]
      rw [e] at hx
      have := RG5.pb _ (.inr (by
        unfold fpt
        rw [List.getD_eq_getElem?_getD, List.getElem?_eq_getElem (by rw [List.length_map]; exact hk)]
        exact List.getElem_mem _)) x hx
      omega⟩
    refine q ⟨fs, en, rows5, hs, out⟩ p G8 ⟨by show 1 ≤ fs.length; omega, by show fs.length ≤ 12; omega, fun f hfm => (hfo f hfm).1, by show en < fs.length; omega, by rw [lhs2]; omega, fun h hh => ?_, by show 1 ≤ rows5.length; omega, by show rows5.length ≤ 60; omega, ?_, ?_, outl⟩ more (fun h hh => (hho h hh).2.2.1) mild (by show rows5.length ≤ 26; omega) (b8.w.mono (by omega)) b8.sb (same_free (b7.one d62 w62).sb hwx hp np) (fun G9 s9 => PartsAt.but (n := ⟨fs, en, rows5, hs, out⟩) ⟨fl, ml, ll, h_p, b8.f, b8.m, lv5, s8 _ _ (d62 _ _ nla (s7 _ _ (d61 _ _ nla hlv5))), (((tlv5.but d61 hgx5).same s7).but d62 hgx7).same s8⟩ s9 hgx8 fun fa ra hb e => by
      rw [h_p] at e
      cases e
      exact ⟨b8.n2, b8.n3, nla⟩)
    · obtain ⟨h1, h2, _, x, hx⟩ := hho h hh
      refine ⟨h1, fun f ef => by rw [← frm_at ef]; exact h2, x, ?_⟩
      show rows5[h.l]? = some (.keep h.k x)
      rw [et5, List.getElem?_append_left (List.getElem?_eq_some_iff.mp hx).1]
      exact hx
    · intro i r e
      rw [lhs2]
      have := RG5.ok i r e
      rw [← lf] at this
      exact this
    · intro p hp
      have e : NetP.pts ⟨fs, en, rows5, hs, out⟩ = ptsOf (fpt fs en) (ks.map (fpt fs)) (fs.map (·.pt)) rows5 := by
        unfold NetP.pts
        rw [hpe]
      rw [e] at hp
      have := RG5.pb _ (.inl rfl) p hp
      omega
end
end E1

namespace GQ
open PySem PySem.SeqAt
open AutoSeq1 (wpAny_loadPart')
open MeetsSeq MeetsSeq2 MeetsSeq3 SeqRoads2
section
variable {prog : Program} {w : World} {A : Around} {R : Result → Shared → Prop}
/-- two lists that lie somewhere, N things each -/
def Lie2 (l b : Addr) (N : Nat) (s : Shared) (xs ys : Array Value) : Prop :=
  xs.size = N ∧ ys.size = N ∧ ∃ nx ny : Nat, s.heap.get? l = some { cls := .type "list", data := .seq xs nx } ∧ s.heap.get? b = some { cls := .type "list", data := .seq ys ny }
/-- at each turn the lists are read anew; the things at i are told alike, or unlike and then J -/
def ListJ (prog : Program) (w : World) (A : Around) (E : Value → Shared → Prop) (l b : Addr) (N : Nat) (I : Nat → Shared → Prop) (J : Shared → Prop) : Prop :=
  ∀ i s, I i s → ∃ xs ys, Lie2 l b N s xs ys ∧ ∀ (ix : i < xs.size) (iy : i < ys.size), wpAny (model prog w) A.in1 (eqBool xs[i] ys[i])
    (fun r s' => (r = true → I (i + 1) s') ∧ (r = false → J s' ∧ ∃ us vs, Lie2 l b N s' us vs)) E s
theorem eq_loopJ {l b : Addr} {N : Nat} {I : Nat → Shared → Prop} {J : Shared → Prop} (turn : ListJ prog w A (fun e s' => R (.error e) s') l b N I J)
    (yes : ∀ s, I N s → R (.ok (.ret (.bool true))) s) (no : ∀ s, J s → R (.ok (.ret (.bool false))) s) :
    ∀ (left i : Nat), N = i + left → ∀ s, I i s → wpAny (model prog w) A.in1 (Builtin.«list.__eq__.loop» ⟨[.ref l, .ref b, rawInt i, rawInt 2], []⟩) (FinOf prog w A R) (fun e s' => R (.error e) s') s
  | 0, i, en, s, h => by
    obtain ⟨xs, ys, ⟨zx, zy, nx, ny, atl, atb⟩, _⟩ := turn _ _ h
    obtain rfl : N = i := en
    have told := yes s h
    obtain ⟨hp, g, d, tk, os⟩ := s
    wp_walk using wpAny_loadPart' atl, wpAny_loadPart' atb
    have outx : xs[((N : Nat) : Int).toNat]? = none := by simp; omega
    have outy : ys[((N : Nat) : Int).toNat]? = none := by simp; omega
    rw [outx, outy]
    wp_walk using wpAny_loadPart' atl, wpAny_loadPart' atb
    show R (.ok (.ret (.bool (xs.size == ys.size)))) _
    rw [zx, zy]
    simpa using told
  | left + 1, i, en, s, h => by
    obtain ⟨xs, ys, ⟨zx, zy, nx, ny, atl, atb⟩, once⟩ := turn _ _ h
    have ix : i < xs.size := by omega
    have iy : i < ys.size := by omega
    replace once := once ix iy
    obtain ⟨hp, g, d, tk, os⟩ := s
    wp_walk using wpAny_loadPart' atl, wpAny_loadPart' atb
    have gx : xs[((i : Nat) : Int).toNat]? = some xs[i] := by simp [ix]
    have gy : ys[((i : Nat) : Int).toNat]? = some ys[i] := by simp [iy]
    rw [gx, gy]
    refine wpAny_bind (wpAny_mono once (fun r s2 q2 => ?_) fun _ _ x => x)
    cases r with
    | true =>
      have rest := eq_loopJ turn yes no left (i + 1) (by omega) s2 (q2.1 rfl)
      obtain ⟨hp2, g2, d2, tk2, os2⟩ := s2
      wp_walk
      rw [show ((i : Int) + 1) = ((i + 1 : Nat) : Int) by omega]
      exact ⟨plainId_quiet plain_eq_loop _, codeAny_builtin entry_eq_loop (by
        rw [Around.under_plainId plain_eq_loop _]
        exact rest)⟩
    | false =>
      obtain ⟨j, us, vs, zu, zv, nu, nv, atl2, atb2⟩ := q2.2 rfl
      have told := no s2 j
      obtain ⟨hp2, g2, d2, tk2, os2⟩ := s2
      wp_walk using wpAny_loadPart' atl2, wpAny_loadPart' atb2
      have gu : us[((i : Nat) : Int).toNat]? = some us[i] := by simp
      have gv : vs[((i : Nat) : Int).toNat]? = some vs[i] := by simp
      rw [gu, gv]
      wp_walk
      exact told
theorem list_eqJ {l b : Addr} {N : Nat} {I : Nat → Shared → Prop} {J : Shared → Prop} (turn : ListJ prog w A (fun e s' => R (.error e) s') l b N I J)
    (yes : ∀ s, I N s → R (.ok (.ret (.bool true))) s) (no : ∀ s, J s → R (.ok (.ret (.bool false))) s) {s : Shared} (h : I 0 s) :
    wpAny (model prog w) A.in1 (Builtin.«list.__eq__» ⟨[.ref l, .ref b], []⟩) (FinOf prog w A R) (fun e s' => R (.error e) s') s := by
  obtain ⟨xs, ys, ⟨zx, zy, nx, ny, atl, atb⟩, _⟩ := turn _ _ h
  have rest := eq_loopJ turn yes no N 0 (Nat.zero_add _).symm s h
  obtain ⟨hp, g, d, tk, os⟩ := s
  have under := AutoSeq1.sub_list_list
  have alike : ¬ (xs.size != ys.size) = true := by simp [zx, zy]
  wp_walk using wpAny_loadPart' atl, wpAny_loadPart' atb
  exact ⟨plainId_quiet plain_eq_loop _, codeAny_builtin entry_eq_loop (by
    rw [Around.under_plainId plain_eq_loop _]
    exact rest)⟩
/-- lists of unlike lengths -/
theorem list_eqL {l b : Addr} {xs ys : Array Value} {nx ny : Nat} (zz : xs.size ≠ ys.size) {s : Shared} (atl : s.heap.get? l = some { cls := .type "list", data := .seq xs nx }) (atb : s.heap.get? b = some { cls := .type "list", data := .seq ys ny })
    (told : R (.ok (.ret (.bool false))) s) : wpAny (model prog w) A.in1 (Builtin.«list.__eq__» ⟨[.ref l, .ref b], []⟩) (FinOf prog w A R) (fun e s' => R (.error e) s') s := by
  obtain ⟨hp, g, d, tk, os⟩ := s
  have under := AutoSeq1.sub_list_list
  have unlike : (xs.size != ys.size) = true := by simpa using zz
  wp_walk using wpAny_loadPart' atl, wpAny_loadPart' atb
  exact told
end
section
variable {prog : Program} {w : World} {A : Around} {E : Value → Shared → Prop} {s : Shared}
theorem rc_listJ {l b : Addr} {N : Nat} {Q : Value → Shared → Prop} (hu : A.units < cLine) {I : Nat → Shared → Prop} {J : Shared → Prop} (turn : ListJ prog w A E l b N I J)
    (yes : ∀ s, I N s → Q (.bool true) s) (no : ∀ s, J s → Q (.bool false) s) (h : I 0 s) : wpAny (model prog w) A (richCompare .Eq (.ref l) (.ref b)) Q E s := by
  obtain ⟨xs, ys, ⟨zx, zy, nx, ny, atl, atb⟩, _⟩ := turn _ _ h
  refine wpAny_richCompare_same_room (op := .Eq) ⟨_, atl, rfl⟩ ⟨_, atb, rfl⟩ F.slot_list_eq (call_here F.slot_list_eq ⟨_, atl, rfl⟩ F.entry_list_eq (F.args_list_eq_2 _ _) ?_) hu
  exact list_eqJ (R := wants (fun v s' => v ≠ .notImplemented ∧ Q v s') E) turn (fun s' q => ⟨(fun z => nomatch z), yes s' q⟩) (fun s' q => ⟨(fun z => nomatch z), no s' q⟩) h
theorem rc_listL {l b : Addr} {xs ys : Array Value} {nx ny : Nat} {Q : Value → Shared → Prop} (hu : A.units < cLine) (zz : xs.size ≠ ys.size) (atl : s.heap.get? l = some { cls := .type "list", data := .seq xs nx }) (atb : s.heap.get? b = some { cls := .type "list", data := .seq ys ny })
    (told : Q (.bool false) s) : wpAny (model prog w) A (richCompare .Eq (.ref l) (.ref b)) Q E s := by
  refine wpAny_richCompare_same_room (op := .Eq) ⟨_, atl, rfl⟩ ⟨_, atb, rfl⟩ F.slot_list_eq (call_here F.slot_list_eq ⟨_, atl, rfl⟩ F.entry_list_eq (F.args_list_eq_2 _ _) ?_) hu
  exact list_eqL (R := wants (fun v s' => v ≠ .notImplemented ∧ Q v s') E) zz atl atb ⟨(fun z => nomatch z), told⟩
end
end GQ
namespace L2
open PySem PySem.Spec PyProof.Rows
/-- how two values compare: alike or not, by the abstract heap -/
abbrev Cmp := V → V → Bool → Hp → Prop
def MonB (D : Cmp) : Prop := ∀ x y r H H', Ext H H' → D x y r H → D x y r H'
def EqB (X : Cx) (n : Nat) (D : Cmp) : Prop := ∀ (A : Around) (pins : List (Addr × Obj)) (s : Shared) (σ : St) (H : Hp) (x y : V) (r : Bool) (u v : Value), Sub X n A → Inv X pins σ H s → RelV x u → RelV y v → D x y r H →
  wpAny (model X.prog X.w) A (eqBool u v) (fun c s' => c = r ∧ LoopI X pins σ H s') X.xe s
def RcB (X : Cx) (n : Nat) (D : Cmp) : Prop := ∀ (A : Around) (pins : List (Addr × Obj)) (s : Shared) (σ : St) (H : Hp) (x y : V) (r : Bool) (u v : Value), Sub X n A → Inv X pins σ H s → RelV x u → RelV y v → D x y r H →
  wpAny (model X.prog X.w) A (richCompare .Eq u v) (fun c s' => c = .bool r ∧ LoopI X pins σ H s') X.xe s
/-- x == y as an expression, told either way -/
def rEqB (D : Cmp) : R2 := fun x y H Q => ∃ r, D x y r H ∧ ∀ H', Ext H H' → Q (.bl r) H'
/-- two lists, thing by thing: alike if all are; or of unlike lengths -/
def CList (D : Cmp) : Cmp := fun x y r H => ∃ a b xs ys, x = .ref a ∧ y = .ref b ∧ H a = some (.lst xs) ∧ H b = some (.lst ys) ∧
  ((xs.length ≠ ys.length ∧ r = false) ∨ (xs.length = ys.length ∧ ∃ f : Nat → Bool, (∀ (i : Nat) u v, xs[i]? = some u → ys[i]? = some v → D u v (f i) H) ∧ r = (List.range xs.length).all f))
/-- an instance of the class at C and another thing, by the text's own == -/
def CIns (K : PySem.W.Frag) (C : Addr) (R : Cmp) : Cmp := fun x y r H => ∃ a dx fs t, x = .ref a ∧ H a = some (.ins C dx fs) ∧ TyX K H y t ∧ PySem.W.notFirst K C t = true ∧ R x y r H
def spEqB (R : Cmp) : Sp := fun vs H Q _ => ∃ x y r, vs = [x, y] ∧ R x y r H ∧ ∀ H', Ext H H' → Q (.bl r) H'
section
variable {X : Cx} {n : Nat} {D : Cmp}
theorem op_eqB (h : RcB X n D) (hr : Room n X.A) : OpR X (compareOp .Eq) (rEqB D) := by
  intro pins s σ H x y v u Q I rx ry hq
  obtain ⟨r, d, q⟩ := hq
  show wpAny _ _ (richCompare .Eq v u) (EP X pins σ Q) X.xe s
  refine wpAny_mono (h X.A pins s σ H x y r v u ⟨hr, rfl⟩ I rx ry d) (fun c s' z => ?_) fun _ _ e => e
  obtain ⟨rfl, H', I', e⟩ := z
  exact ⟨.bl r, H', I', rfl, q H' e⟩
theorem all_range_split {f : Nat → Bool} {n i : Nat} (hi : i < n) (low : ∀ j, j < i → f j = true) (no : f i = false) : (List.range n).all f = false := by
  refine Bool.eq_false_iff.mpr fun z => ?_
  have := List.all_eq_true.mp z i (List.mem_range.mpr hi)
  rw [no] at this
  cases this
theorem rcB_list (hD : MonB D) (h : EqB X n D) : RcB X (n + 1) (CList D) := by
  intro A pins s σ H x y r u v sb I rx ry d
  obtain ⟨a, b, xs, ys, rfl, rfl, ha, hb, d⟩ := d
  cases rx
  cases ry
  rcases d with ⟨ne, rfl⟩ | ⟨el, f, hf, rfl⟩
  · obtain ⟨_, its, k, r1, e1⟩ := I.hok a _ ha
    obtain ⟨_, its2, k2, r2, e2⟩ := I.hok b _ hb
    refine GQ.rc_listL sb.room.units0 (by rw [List.size_toArray, List.size_toArray, ← r1.length, ← r2.length]; exact ne) e1 e2 ⟨rfl, H, I, Ext.rfl'⟩
  · have lie : ∀ s' : Shared, LoopI X pins σ H s' → ∃ us vs : List Value, GQ.Lie2 a b xs.length s' us.toArray vs.toArray ∧ Vals xs us ∧ Vals ys vs := fun s' q => by
      obtain ⟨H1, I1, e⟩ := q
      obtain ⟨_, its, k, r1, e1⟩ := I1.hok a _ (e _ _ ha)
      obtain ⟨_, its2, k2, r2, e2⟩ := I1.hok b _ (e _ _ hb)
      exact ⟨its, its2, ⟨by rw [List.size_toArray, ← r1.length], by rw [List.size_toArray, ← r2.length, el], k, k2, e1, e2⟩, r1, r2⟩
    refine GQ.rc_listJ (N := xs.length) (I := fun i s' => LoopI X pins σ H s' ∧ i ≤ xs.length ∧ ∀ j, j < i → f j = true) (J := fun s' => LoopI X pins σ H s' ∧ (List.range xs.length).all f = false) sb.room.units0 (fun i s' q => ?_) (fun s' q => ⟨?_, q.1⟩) (fun s' q => ⟨by rw [q.2], q.1⟩) ⟨⟨H, I, Ext.rfl'⟩, Nat.zero_le _, fun j z => absurd z (Nat.not_lt_zero j)⟩
    · obtain ⟨lp, il, low⟩ := q
      obtain ⟨us, vs, lv, r1, r2⟩ := lie s' lp
      refine ⟨_, _, lv, fun ix iy => ?_⟩
      have i1 : i < us.length := ix
      have i2 : i < vs.length := iy
      have k1 : i < xs.length := by rw [r1.length]; exact i1
      have k2 : i < ys.length := by rw [r2.length]; exact i2
      obtain ⟨u', hu, ru⟩ := r1.get (List.getElem?_eq_getElem k1)
      obtain ⟨v', hv, rv⟩ := r2.get (List.getElem?_eq_getElem k2)
      rw [List.getElem?_eq_getElem i1] at hu
      rw [List.getElem?_eq_getElem i2] at hv
      obtain ⟨H1, I1, e⟩ := lp
      have D1 := hD _ _ _ _ _ e (hf i _ _ (List.getElem?_eq_getElem k1) (List.getElem?_eq_getElem k2))
      rw [List.getElem_toArray, List.getElem_toArray, Option.some.inj hu, Option.some.inj hv]
      refine wpAny_mono (h A.in1 pins s' σ H1 _ _ _ _ _ sb.in1 I1 ru rv D1) (fun c s2 z => ?_) fun _ _ z => z
      obtain ⟨rfl, H2, I2, e2⟩ := z
      have lp2 : LoopI X pins σ H s2 := ⟨H2, I2, e.trans e2⟩
      refine ⟨fun c => ⟨lp2, k1, fun j hj => ?_⟩, fun c => ⟨⟨lp2, all_range_split k1 low c⟩, ?_⟩⟩
      · rcases Nat.lt_or_ge j i with hj' | hj'
        · exact low j hj'
        · obtain rfl : j = i := by omega
          exact c
      · obtain ⟨us2, vs2, lv2, _⟩ := lie s2 lp2
        exact ⟨_, _, lv2⟩
    · rw [List.all_eq_true.mpr fun j hj => q.2.2 j (List.mem_range.mp hj)]
theorem rcB_ins {C f : Addr} {fd : FuncData} {ps : List Str} {R : Cmp} (F : FnOk X.prog X.w X.K X.mg X.base CX0 n f fd ps (spEqB R))
    (hs : PySem.W.findIn X.K (.ref C) "__eq__" = some (some (.ref f))) (hf : PySem.W.isFn X.K (.ref f) = true) (hb : Binds X.K fd ps []) : RcB X n (CIns X.K C R) := by
  intro A pins s σ H x y r u v sb I rx ry d
  obtain ⟨a, dx, fs, t, rfl, ha, ty, nf, hr⟩ := d
  cases rx
  obtain ⟨mA, J, _⟩ := ins_get I.hok ha
  obtain ⟨od, J, _⟩ := J.look
  obtain ⟨m, hF⟩ := I.fr
  obtain ⟨_, Z, p, _⟩ := kit_of I ry ty
  refine PySem.W.cmp_K (op := .Eq) (tb := t) sb.room.units0 hF I.ok.mod.kin J (Z.ty _ _ I.kIn p) nf hs hf (wpAny_mono (E1.run_own (vs := [.ref a, y]) (Q := fun z H' => z = .bl r ∧ Ext H H') F sb.room sb.fr hb I (.cons rfl (.cons ry .nil)) ⟨_, _, r, rfl, hr, fun H' e => ⟨rfl, e⟩⟩) (fun c s' hv => ?_) fun _ _ e => e)
  obtain ⟨z, H', I', rz, rfl, e⟩ := hv
  obtain rfl : c = .bool r := rz
  exact ⟨rfl, H', I', e⟩
/-- inside a list: the same object is alike -/
theorem RcB.eqB (h : RcB X n D) (hr : ∀ x y r H, D x y r H → ∃ a b, x = .ref a ∧ y = .ref b ∧ (a = b → r = true)) : EqB X n D := by
  intro A pins s σ H x y r u v sb I rx ry d
  obtain ⟨a, b, rfl, rfl, ab⟩ := hr _ _ _ _ d
  cases rx
  cases ry
  by_cases same : a = b
  · subst same
    rw [ab rfl]
    exact SeqAt.EqAt.same (.ref a) X.prog X.w X.xe _ ⟨rfl, H, I, Ext.rfl'⟩
  · refine GQ.eqBool_refG same (wpAny_mono (h A pins s σ H (.ref a) (.ref b) r _ _ sb I rfl rfl d) (fun c s' z => ?_) fun _ _ z => z)
    exact ⟨r, z.1, rfl, z.2⟩
end
end L2

namespace PySem.W
open PySem PySem.Calls PyProof.Rows
section
variable {prog : Program} {w : World} {A : Around} {E : Value → Shared → Prop} {s : Shared} {K : Frag} {x C f : Addr} {ox : Obj} {od : Option Obj} {b tb : Value}
/-- object's own != of an instance with an == of its own -/
theorem own_ne {Q : Value → Shared → Prop} (hu : A.units + 1 < cLine) (X : K.In s.heap) (I : InstAt s.heap x ox C od) (ob : subIn K (.ref C) (.type "object") = some true)
    (hs : findIn K (.ref C) "__eq__" = some (some (.ref f))) (hf : isFn K (.ref f) = true)
    (h : wpAny (model prog w) A.in1 (call (.ref f) [.ref x, b]) (fun v s' => ∃ r, v = .bool r ∧ Q (.bool (!r)) s') E s) :
    wpAny (model prog w) A (call (.builtin "object.__ne__") [.ref x, b]) Q E s := by
  refine wpAny_call (codeAny_call_builtin F.slot_enumerate_ne.plain F.cmpEntry_ne (check_slot F.cmpKind_ne F.cmpSplit_ne (I.type.andThen (looks_subIn X ob)) (F.cmpArgs_ne _ _) ?_))
  unfold Builtin.«object.__ne__»
  have hu1 : A.in1.units < cLine := by first | exact Nat.lt_of_succ_lt hu | exact hu
  repeat (first
    | with_reducible refine wpAny_cRoomFor hu1 ?_
    | (refine wpAny_bind (m := callSpecialIfBound? (.ref x) (Str.ofString "__eq__") [b])
        (ifBound_K X I hs hf (wpAny_mono h (fun v s' hv => ?_) fun _ _ e => e))
       obtain ⟨r, rfl, hq⟩ := hv)
    | (refine wpAny_bind (m := truthy (.bool _)) (wpAny_truthy_bool ?_))
    | exact hq
    | exact wpAny_pure hq
    | wp_step)
  done
/-- != of an instance with an == of its own, by object's != -/
theorem ne_K {Q : Value → Shared → Prop} (hu : A.units + 1 < cLine) (X : K.In s.heap) (I : InstAt s.heap x ox C od) (hb : Looks (model prog w) s.heap (typeOf b) tb) (hn : notFirst K C tb = true) (ob : subIn K (.ref C) (.type "object") = some true)
    (hne : findIn K (.ref C) "__ne__" = some (some (.builtin "object.__ne__"))) (hs : findIn K (.ref C) "__eq__" = some (some (.ref f))) (hf : isFn K (.ref f) = true)
    (h : wpAny (model prog w) A.in1 (call (.ref f) [.ref x, b]) (fun v s' => ∃ r, v = .bool r ∧ Q (.bool (!r)) s') E s) : wpAny (model prog w) A (richCompare .NotEq (.ref x) b) Q E s := by
  have told : wpAny (model prog w) A (tryCompare (.ref x) (cmpInfo .NotEq).2.1 b) (fun r s' => ∃ v, r = some v ∧ Q v s') E s := by
    have made := own_ne (Q := fun v s' => ∃ r, v = .bool r ∧ Q v s') hu X I ob hs hf (wpAny_mono h (fun v s' hv => by
      obtain ⟨r, e, q⟩ := hv
      exact ⟨r, e, _, rfl, q⟩) fun _ _ e => e)
    unfold tryCompare
    refine wpAny_bind ?_
    simp only [callSpecialIfBound?, bindSpecialIfBound?, cmpInfo_NotEq]
    refine wpAny_holding (wpAny_bind (wpAny_bind (wpAny_bind (I.type.here ((looks_findIn X hne).here ?_)))))
    have last : ∀ G : Option Value → Shared → Prop, (∀ r s', Q (.bool r) s' → G (some (.bool r)) s') → wpAny (model prog w) A (call (.builtin "object.__ne__") ([.ref x] ++ [b]) >>= fun v => pure (some v)) G E s := fun G g => wpAny_bind (wpAny_mono made (fun v s' hv => by
      obtain ⟨r, rfl, q⟩ := hv
      exact wpAny_pure (g r s' q)) fun _ _ e => e)
    refine wpAny_bind (wpAny_askSetting (wpAny_ite ?_))
    split
    · rw [F.slot_enumerate_ne.bind]
      exact wpAny_bind (wpAny_pure (wpAny_pure (last _ fun r s' q => wpAny_pure ⟨_, rfl, q⟩)))
    · rw [F.slot_enumerate_ne.bind]
      exact wpAny_tryCatch (wpAny_bind (wpAny_pure (wpAny_pure (last _ fun r s' q => wpAny_pure ⟨_, rfl, q⟩))))
  unfold richCompare
  simp only [oneThing_ref]
  refine wpAny_holding (wpAny_bind (wpAny_cRoomFor (Nat.lt_of_succ_lt hu) ?_))
  refine wpAny_bind (I.type.here (wpAny_bind (hb.here ?_)))
  by_cases q : (Value.ref C != tb) = true
  · have no : subIn K tb (.ref C) = some false := by
      rcases Bool.or_eq_true_iff.mp hn with z | z
      · rw [beq_iff_eq.mp z] at q
        simp at q
      · exact beq_iff_eq.mp z
    rw [if_pos q]
    refine wpAny_bind ((looks_subIn X no).here ?_)
    simp only [Bool.false_eq_true, if_false]
    refine wpAny_bind (wpAny_mono told (fun r s' z => ?_) fun _ _ e => e)
    obtain ⟨v, rfl, hq⟩ := z
    exact wpAny_pure hq
  · rw [if_neg q]
    refine wpAny_bind (wpAny_pure ?_)
    simp only [Bool.false_eq_true, if_false]
    refine wpAny_bind (wpAny_mono told (fun r s' z => ?_) fun _ _ e => e)
    obtain ⟨v, rfl, hq⟩ := z
    exact wpAny_pure hq
end
end PySem.W
namespace GQ
open PySem PySem.SeqAt
open AutoSeq1 (wpAny_loadPart')
open MeetsSeq MeetsSeq2 MeetsSeq3 SeqRoads2
section
variable {prog : Program} {w : World} {A : Around} {R : Result → Shared → Prop}
theorem ne_loopL (l b : Addr) (N : Nat) (I : Nat → Shared → Prop) (both : ListI prog w A (fun e s' => R (.error e) s') l b N I) (fin : ∀ s, I N s → R (.ok (.ret (.bool false))) s) :
    ∀ (k i : Nat), N - i = k → i ≤ N → ∀ s, I i s → wpAny (model prog w) A.in1 (Builtin.«list.__eq__.loop» ⟨[.ref l, .ref b, rawInt i, rawInt 3], []⟩) (FinOf prog w A R) (fun e s' => R (.error e) s') s
  | 0, i, hk, hi, s, h => by
    obtain ⟨xs, ys, nx, ny, atl, atb, zx, zy, _⟩ := both _ _ h
    obtain rfl : i = N := by omega
    have told := fin s h
    obtain ⟨hp, g, d, tk, os⟩ := s
    wp_walk using wpAny_loadPart' atl, wpAny_loadPart' atb
    have nox : xs[((i : Nat) : Int).toNat]? = none := by simp; omega
    have noy : ys[((i : Nat) : Int).toNat]? = none := by simp; omega
    rw [nox, noy]
    wp_walk using wpAny_loadPart' atl, wpAny_loadPart' atb
    show R (.ok (.ret (.bool (xs.size != ys.size)))) _
    rw [zx, zy]
    simpa using told
  | k + 1, i, hk, hi, s, h => by
    obtain ⟨xs, ys, nx, ny, atl, atb, zx, zy, turn⟩ := both _ _ h
    have ix : i < xs.size := by omega
    have iy : i < ys.size := by omega
    have once := turn ix iy
    obtain ⟨hp, g, d, tk, os⟩ := s
    wp_walk using wpAny_loadPart' atl, wpAny_loadPart' atb
    have gx : xs[((i : Nat) : Int).toNat]? = some xs[i] := by simp [ix]
    have gy : ys[((i : Nat) : Int).toNat]? = some ys[i] := by simp [iy]
    rw [gx, gy]
    refine wpAny_bind (wpAny_mono once (fun r s2 q2 => ?_) fun _ _ x => x)
    obtain ⟨rfl, q2⟩ := q2
    have rest := ne_loopL l b N I both fin k (i + 1) (by omega) (by omega) s2 q2
    obtain ⟨hp2, g2, d2, tk2, os2⟩ := s2
    wp_walk
    rw [show ((i : Int) + 1) = ((i + 1 : Nat) : Int) by omega]
    exact ⟨plainId_quiet plain_eq_loop _, codeAny_builtin entry_eq_loop (by
      rw [Around.under_plainId plain_eq_loop _]
      exact rest)⟩
theorem list_neL (l b : Addr) (N : Nat) (I : Nat → Shared → Prop) (both : ListI prog w A (fun e s' => R (.error e) s') l b N I) (fin : ∀ s, I N s → R (.ok (.ret (.bool false))) s) {s : Shared} (h : I 0 s) :
    wpAny (model prog w) A.in1 (Builtin.«list.__ne__» ⟨[.ref l, .ref b], []⟩) (FinOf prog w A R) (fun e s' => R (.error e) s') s := by
  have ⟨xs, ys, nx, ny, atl, atb, zx, zy, _⟩ := both _ _ h
  have rest := ne_loopL (A := A) (R := R) l b N I both fin _ 0 rfl (Nat.zero_le _) s h
  obtain ⟨hp, g, d, tk, os⟩ := s
  have under := AutoSeq1.sub_list_list
  have alike : ¬ (xs.size != ys.size) = true := by simp [zx, zy]
  wp_walk using wpAny_loadPart' atl, wpAny_loadPart' atb
  exact ⟨plainId_quiet plain_eq_loop _, codeAny_builtin entry_eq_loop (by
    rw [Around.under_plainId plain_eq_loop _]
    exact rest)⟩
end
section
variable {prog : Program} {w : World} {A : Around} {E : Value → Shared → Prop} {s : Shared}
theorem rcNe_listL {l b : Addr} {N : Nat} {Q : Value → Shared → Prop} (hu : A.units < cLine) (I : Nat → Shared → Prop) (both : ListI prog w A E l b N I) (fin : ∀ s, I N s → Q (.bool false) s) (h : I 0 s) : wpAny (model prog w) A (richCompare .NotEq (.ref l) (.ref b)) Q E s := by
  have ⟨xs, ys, nx, ny, atl, atb, _, _, _⟩ := both _ _ h
  refine wpAny_richCompare_same_room (op := .NotEq) ⟨_, atl, rfl⟩ ⟨_, atb, rfl⟩ F.slot_list_ne (call_here F.slot_list_ne ⟨_, atl, rfl⟩ F.entry_list_ne (F.args_list_ne_2 _ _) ?_) hu
  exact list_neL (R := wants (fun v s' => v ≠ .notImplemented ∧ Q v s') E) l b N I both (fun s' q => ⟨(fun z => nomatch z), fin s' q⟩) h
end
end GQ
namespace L2
open PySem PySem.Spec PyProof.Rows
section
variable {X : Cx} {n : Nat} {D : Eqv}
/-- x != y of two that are alike -/
def rNeG (D : Eqv) : R2 := fun x y H Q => D x y H ∧ ∀ H', Ext H H' → Q (.bl false) H'
def RcNe (X : Cx) (n : Nat) (D : Eqv) : Prop := ∀ (A : Around) (pins : List (Addr × Obj)) (s : Shared) (σ : St) (H : Hp) (x y : V) (u v : Value), Sub X n A → Inv X pins σ H s → RelV x u → RelV y v → D x y H →
  wpAny (model X.prog X.w) A (richCompare .NotEq u v) (fun r s' => r = .bool false ∧ ∃ H', Inv X pins σ H' s' ∧ Ext H H') X.xe s
theorem op_neG (h : RcNe X n D) (hr : Room n X.A) : OpR X (compareOp .NotEq) (rNeG D) := by
  intro pins s σ H x y v u Q I rx ry hq
  obtain ⟨d, q⟩ := hq
  show wpAny (model X.prog X.w) X.A (richCompare .NotEq v u) (EP X pins σ Q) X.xe s
  refine wpAny_mono (h X.A pins s σ H x y v u ⟨hr, rfl⟩ I rx ry d) (fun r s' z => ?_) fun _ _ e => e
  obtain ⟨rfl, H', I', e⟩ := z
  exact ⟨.bl false, H', I', rfl, q H' e⟩
theorem rcNe_list (hD : Mon D) (h : EqG X n D) : RcNe X (n + 1) (DList D) := by
  intro A pins s σ H x y u v sb I rx ry d
  obtain ⟨a, b, xs, ys, rfl, rfl, ha, hb, p⟩ := d
  cases rx
  cases ry
  refine GQ.rcNe_listL (N := xs.length) sb.room.units0 (fun _ s' => LoopI X pins σ H s') (fun i s' q => ?_) (fun s' q => ⟨rfl, q⟩) ⟨H, I, Ext.rfl'⟩
  have ⟨H1, I1, e1⟩ := q
  obtain ⟨_, its, k, r, e⟩ := I1.hok a _ (e1 _ _ ha)
  obtain ⟨_, its2, k2, r2, e2⟩ := I1.hok b _ (e1 _ _ hb)
  have z1 : its.toArray.size = xs.length := by rw [List.size_toArray, ← r.length]
  have z2 : its2.toArray.size = xs.length := by rw [List.size_toArray, ← r2.length, ← p.1]
  exact ⟨_, _, k, k2, e, e2, z1, z2, fun h1 h2 => turnG hD h sb p r r2 i h1 h2 s' q⟩
/-- what the written part says of a class with an == and no != -/
structure NoNe (K : PySem.W.Frag) (C : Addr) : Prop where
  ne : PySem.W.findIn K (.ref C) "__ne__" = some (some (.builtin "object.__ne__"))
  ob : PySem.W.subIn K (.ref C) (.type "object") = some true
theorem rcNe_ins {C f : Addr} {fd : FuncData} {ps : List Str} {R : Addr → Addr → Hp → Prop} (N : NoNe X.K C) (F : FnOk X.prog X.w X.K X.mg X.base CX0 n f fd ps (spEq R))
    (hs : PySem.W.findIn X.K (.ref C) "__eq__" = some (some (.ref f))) (hf : PySem.W.isFn X.K (.ref f) = true) (hb : Binds X.K fd ps []) : RcNe X (n + 1) (DIns C R) := by
  intro A pins s σ H x y u v sb I rx ry d
  obtain ⟨a, b, dx, dy, fs, gs, rfl, rfl, ha, hb', hr⟩ := d
  cases rx
  cases ry
  obtain ⟨mA, J, _⟩ := ins_get I.hok ha
  obtain ⟨mB, J', _⟩ := ins_get I.hok hb'
  obtain ⟨od, J, _⟩ := J.look
  obtain ⟨od', J', _⟩ := J'.look
  have rm : Room n A.in1 := sb.room.in1
  have r2 : Vals [V.ref a, V.ref b] [Value.ref a, Value.ref b] := .cons rfl (.cons rfl .nil)
  refine PySem.W.ne_K (tb := .ref C) (by have := sb.room.units; omega) I.kIn J J'.type (by simp [PySem.W.notFirst]) N.ob N.ne hs hf (wpAny_mono (E1.run_own (vs := [.ref a, .ref b]) (Q := fun z H' => z = .bl true ∧ Ext H H') F rm (by rw [Around.in1_frames]; exact sb.fr) hb I r2 ⟨a, b, rfl, hr, fun H' e => ⟨rfl, e⟩⟩) (fun v s' hv => ?_) fun _ _ e => e)
  obtain ⟨z, H', I', rz, rfl, e⟩ := hv
  obtain rfl : v = .bool true := rz
  exact ⟨true, rfl, rfl, H', I', e⟩
end
end L2

namespace L2
open PySem PySem.Spec PyProof.Rows
theorem EqB.g {X : Cx} {n : Nat} {D : Cmp} (h : EqB X n D) : EqG X n (fun x y H => D x y true H) := fun A pins s σ H x y u v sb I rx ry d => h A pins s σ H x y true u v sb I rx ry d
end L2

namespace E1
open PySem PySem.Spec PyProof.Rows L2

/-! ### == told either way -/
def vD : V → PyData
  | .int i => .int i
  | .str s => .str s
  | .bl b => .bool b
  | _ => .none
inductive Pla : V → Prop where
  | int (i : Int) : Pla (.int i)
  | str (s : Str) (h : PyData.canLay0 (.str s) = true) : Pla (.str s)
theorem pla_dp {K : PySem.W.Frag} {H : Hp} : ∀ {xs : List V}, (∀ x ∈ xs, Pla x) → DpAll K H xs (xs.map vD)
  | [], _ => .nil
  | x :: xs, h => by
    refine .cons ?_ (pla_dp fun y hy => h y (List.mem_cons_of_mem _ hy))
    cases h x List.mem_cons_self with
    | int i => exact .int i
    | str s _ => exact .str s
theorem pla_lay : ∀ {xs : List V}, (∀ x ∈ xs, Pla x) → PyData.canLayAll0 (xs.map vD) = true
  | [], _ => rfl
  | x :: xs, h => by
    rw [List.map_cons, PyData.canLayAll0, pla_lay fun y hy => h y (List.mem_cons_of_mem _ hy), Bool.and_true]
    cases h x List.mem_cons_self with
    | int i => rfl
    | str s hs => exact hs
theorem pla_deep : ∀ {xs : List V}, (∀ x ∈ xs, Pla x) → PyData.depthAll (xs.map vD) ≤ 4
  | [], _ => by simp [PyData.depthAll]
  | x :: xs, h => by
    have i := pla_deep fun y hy => h y (List.mem_cons_of_mem _ hy)
    cases h x List.mem_cons_self <;> simp only [List.map_cons, PyData.depthAll, PyData.depth, vD] <;> omega
def tD (xss : List (List V)) : List PyData := xss.map fun xs => .tuple (xs.map vD)
def PlaAll (xss : List (List V)) : Prop := ∀ xs ∈ xss, ∀ x ∈ xs, Pla x
theorem PlaAll.tail {xs : List V} {xss : List (List V)} (h : PlaAll (xs :: xss)) : PlaAll xss := fun y hy => h y (List.mem_cons_of_mem _ hy)
theorem tD_lay : ∀ {xss : List (List V)}, PlaAll xss → PyData.canLayAll0 (tD xss) = true
  | [], _ => rfl
  | xs :: xss, h => by
    have i := tD_lay h.tail
    unfold tD at *
    rw [List.map_cons, PyData.canLayAll0, i, Bool.and_true, PyData.canLay0]
    exact pla_lay (h _ List.mem_cons_self)
theorem tD_deep : ∀ {xss : List (List V)}, PlaAll xss → PyData.depthAll (tD xss) ≤ 6
  | [], _ => by simp [tD, PyData.depthAll]
  | xs :: xss, h => by
    have i := tD_deep h.tail
    have j := pla_deep (h _ List.mem_cons_self)
    unfold tD at *
    simp only [List.map_cons, PyData.depthAll, PyData.depth]
    omega
theorem tD_shaped {xss : List (List V)} (h : PlaAll xss) : SeqAt.shaped (.list (tD xss)) = true := by
  have h1 := tD_deep h
  have h2 : PyData.depth (.list (tD xss)) ≤ 64 := by simp only [PyData.depth]; omega
  show (PyData.canLay0 (.list (tD xss)) && decide (PyData.depth (.list (tD xss)) ≤ 64)) = true
  rw [Bool.and_eq_true]
  exact ⟨by simp only [PyData.canLay0]; exact tD_lay h, decide_eq_true h2⟩
theorem tD_refl {xss : List (List V)} (h : PlaAll xss) : PyData.eqv (.list (tD xss)) (.list (tD xss)) = true := SeqAt.eqv_refl _ (SeqAt.canLay_of_shaped (tD_shaped h))
theorem tsAt_dp {K : PySem.W.Frag} {H : Hp} {vs : List V} {xss : List (List V)} (t : TsAt H vs xss) (h : PlaAll xss) : DpAll K H vs (tD xss) := by
  induction t with
  | nil => exact .nil
  | cons e _ ih => exact .cons (.tup (SqT.of e) (pla_dp (h _ List.mem_cons_self))) (ih h.tail)
theorem Row.pla (r : Row) : ∀ x ∈ r.vs, Pla x := by
  intro x hx
  have s : ∀ k : Kd7, PyData.canLay0 (.str k.s) = true := fun k => by cases k <;> decide +kernel
  cases r <;> simp only [Row.vs, List.mem_cons, List.not_mem_nil, or_false] at hx
  · subst hx; exact .str _ (s .inn)
  · rcases hx with rfl | rfl
    · exact .str _ (s .old)
    · exact .int _
  · rcases hx with rfl | rfl | rfl | rfl
    · exact .str _ (s .times)
    all_goals exact .int _
  · rcases hx with rfl | rfl | rfl
    · exact .str _ (s .plus)
    all_goals exact .int _
  · rcases hx with rfl | rfl | rfl
    · exact .str _ (s .less)
    all_goals exact .int _
  · rcases hx with rfl | rfl | rfl
    · exact .str _ (s .move)
    all_goals exact .int _
  · rcases hx with rfl | rfl | rfl
    · exact .str _ (s .keep)
    all_goals exact .int _
theorem rows_pla (rs : List Row) : PlaAll (rs.map Row.vs) := fun xs h => by
  obtain ⟨r, _, rfl⟩ := List.mem_map.mp h
  exact r.pla
theorem holds_pla (hs : List Hold) : PlaAll (hs.map Hold.vs) := fun xs h => by
  obtain ⟨r, _, rfl⟩ := List.mem_map.mp h
  intro x hx
  simp only [Hold.vs, List.mem_cons, List.not_mem_nil, or_false] at hx
  rcases hx with rfl | rfl | rfl
  all_goals exact .int _
abbrev tsEq (xss yss : List (List V)) : Bool := PyData.eqv (.list (tD xss)) (.list (tD yss))
def fEq (f g : FormP) : Bool := decide (wV f.w = wV g.w) && (decide (V.int f.pt = V.int g.pt) && (decide (V.str f.m.str = V.str g.m.str) && decide (V.str (endS f.st) = V.str (endS g.st))))
theorem andStep {P : Bool → Prop} {A B : Prop} {d e : Bool} (q : P (d && e)) (no : P false → B) (yes : P e → A) : if d = true then A else B := by
  cases d with
  | false => exact iteF (no q)
  | true => exact iteT (yes q)
def fsEq (fs gs : List FormP) : Bool := decide (fs.length = gs.length) && (List.range fs.length).all fun i => fEq (frm fs i) (frm gs i)
def eqN (n m : NetP) : Bool := fsEq n.fs m.fs && (decide (V.int n.en = V.int m.en) && (tsEq (n.rows.map Row.vs) (m.rows.map Row.vs) && (tsEq (n.holds.map Hold.vs) (m.holds.map Hold.vs) && decide (V.int n.out = V.int m.out))))
structure IsN (K : PySem.W.Frag) (mg : Str → Option Value) (CN : Addr) : Prop where
  gC : mg "Net" = some (.ref CN)
  ha : PySem.W.findIn K (.ref CN) "__class__" = some (some (.builtin "object.__class__"))
  hn : PySem.W.specialIn K (.builtin "object.__class__") "__get__" = some (some (.builtin "getset_descriptor.__get__"))
  ht : PySem.W.takesIn K (.builtin "object.__class__") = some true
  hm : PySem.W.mroIn K CN (.type "object") = some true
  kC : PySem.W.kitOne K (.ref CN) (.ref CN) = some true
structure OwnQ (K : PySem.W.Frag) (C : Addr) (f : Addr) (fd : FuncData) : Prop where
  find : PySem.W.findIn K (.ref C) "__eq__" = some (some (.ref f))
  fn : PySem.W.isFn K (.ref f) = true
  b : Binds K fd ["self", "other"] []
/-- two forms, alike or not -/
def RFB (C : Addr) : Cmp := fun x y r H => ∃ (a c : Addr) (f h : FormP), x = .ref a ∧ y = .ref c ∧ FAt C H a f ∧ FAt C H c h ∧ r = fEq f h
theorem RFB.mon {C : Addr} : MonB (RFB C) := fun x y r H H' e d => by
  obtain ⟨a, c, f, h, rfl, rfl, x1, x2, rfl⟩ := d
  exact ⟨a, c, f, h, rfl, rfl, FormAt.same x1 e, FormAt.same x2 e, rfl⟩
/-- a thing that is no net of the program's own, by its kind -/
def NoNet (K : PySem.W.Frag) (CN : Addr) (H : Hp) (y : V) : Prop := ∃ t : String, TyX K H y (.type t) ∧ PySem.W.notFirst K CN (.type t) = true ∧ PySem.W.kitOne K (.type t) (.ref CN) = some false
/-- a net and another thing -/
def RNB (K : PySem.W.Frag) (C CN : Addr) : Cmp := fun x y r H => ∃ (a : Addr) (n : NetP), x = .ref a ∧ NetAt C CN H a n ∧ ((∃ (c : Addr) (m : NetP), y = .ref c ∧ NetAt C CN H c m ∧ r = eqN n m) ∨ (NoNet K CN H y ∧ r = false))
theorem fEq_refl (f : FormP) : fEq f f = true := by
  unfold fEq
  rw [decide_eq_true rfl, decide_eq_true rfl, decide_eq_true rfl, decide_eq_true rfl]
  rfl
theorem fsEq_refl (fs : List FormP) : fsEq fs fs = true := by
  unfold fsEq
  rw [decide_eq_true rfl, Bool.true_and, List.all_eq_true]
  exact fun i _ => fEq_refl _
theorem eqN_refl (n : NetP) : eqN n n = true := by
  unfold eqN
  rw [fsEq_refl, decide_eq_true rfl, tsEq, tsEq, tD_refl (rows_pla _), tD_refl (holds_pla _), decide_eq_true rfl]
  rfl
theorem RFB.self {C : Addr} {H : Hp} {a : Addr} {r : Bool} (h : RFB C (.ref a) (.ref a) r H) : r = true := by
  obtain ⟨a1, c1, f, g, e1, e2, x1, x2, rfl⟩ := h
  cases e1
  cases e2
  obtain ⟨d1, o1⟩ := x1.ob
  obtain ⟨d2, o2⟩ := x2.ob
  have e := o1.symm.trans o2
  simp only [flds, Option.some.injEq, HO.ins.injEq, List.cons.injEq, Prod.mk.injEq, true_and, and_true] at e
  obtain ⟨_, ew, ep, em, es⟩ := e
  unfold fEq
  rw [decide_eq_true ew, decide_eq_true ep, decide_eq_true em, decide_eq_true es]
  rfl
theorem RcB.imp {X : Cx} {n : Nat} {D D' : Cmp} (h : RcB X n D) (i : ∀ x y r H, D' x y r H → D x y r H) : RcB X n D' := fun A pins s σ H x y r u v sb I rx ry d => h A pins s σ H x y r u v sb I rx ry (i x y r H d)
theorem RFB.cins {K : PySem.W.Frag} {mg : Str → Option Value} {C : Addr} (T : FTxt K mg C) (IC : IsC K mg C) : ∀ x y r H, RFB C x y r H → CIns K C (RFB C) x y r H := fun x y r H d => by
  have d' := d
  obtain ⟨a, c, f, g, rfl, rfl, x1, x2, rfl⟩ := d
  obtain ⟨d1, o1⟩ := x1.ob
  obtain ⟨d2, o2⟩ := x2.ob
  exact ⟨a, d1, _, .ref C, rfl, o1, .base (.ins o2 T.cl IC.ha IC.hn IC.ht IC.hm), by simp [PySem.W.notFirst], d'⟩
theorem fsAt_cmp {C : Addr} {H : Hp} {a b : Addr} {fs gs : List FormP} {vs ws : List V} (ha : H a = some (.lst vs)) (hb : H b = some (.lst ws)) (h : FsAt C H vs fs) (g : FsAt C H ws gs) : CList (RFB C) (.ref a) (.ref b) (fsEq fs gs) H := by
  refine ⟨a, b, vs, ws, rfl, rfl, ha, hb, ?_⟩
  rw [h.len, g.len]
  by_cases e : fs.length = gs.length
  · refine .inr ⟨e, fun i => fEq (frm fs i) (frm gs i), fun i u v e1 e2 => ?_, by unfold fsEq; rw [decide_eq_true e, Bool.true_and]⟩
    obtain ⟨p, f, rfl, ef, hp⟩ := h.get e1
    obtain ⟨q, f2, rfl, ef2, hq⟩ := g.get e2
    show RFB C (.ref p) (.ref q) (fEq (frm fs i) (frm gs i)) H
    rw [frm_at ef, frm_at ef2]
    exact ⟨p, q, f, f2, rfl, rfl, hp, hq, rfl⟩
  · exact .inl ⟨e, by unfold fsEq; rw [decide_eq_false e, Bool.false_and]⟩
end E1

namespace E1
open PySem PySem.Spec PyProof.Rows L2
section
variable {P : Program} {w : World} {K : PySem.W.Frag} {mg : Str → Option Value} {base : Heap}
theorem sc_Form___eq__ : FnScope ["self", "other"] ["self", "other"] (defScope s_Form___eq__) := ⟨rfl, rfl, rfl, by decide +kernel, rfl, by decide +kernel, by decide +kernel⟩
theorem ok_Form___eq__ {f : Addr} {fd : FuncData} {k : Nat} {C : Addr} (T : FTxt K mg C) (IC : IsC K mg C) (F : Fun K "__eq__" "Form.__eq__" s_Form___eq__ f fd) (z : Zs mg) : FnOk P w K mg base CX0 (k + 1) f fd ["self", "other"] (spEqB (RFB C)) := by
  refine F.ok sc_Form___eq__ (fun vs H Q E h => ?_) (fun cdv A outer s H vs Q E hr h => ?_)
  · obtain ⟨x, y, r, rfl, _⟩ := h
    rfl
  · obtain ⟨x, y, r, rfl, ⟨a, c, ff, gg, rfl, rfl, hf, hf2, rfl⟩, q⟩ := h
    obtain ⟨⟨dx, ho⟩, hw, h0, h1⟩ := id hf
    obtain ⟨⟨dx2, ho2⟩, _, _, _⟩ := id hf2
    replace q : ∀ H', Ext H H' → Q (.bl (fEq ff gg)) H' := q
    unfold fEq at q
    refine ⟨_, (pss_one (ps_ret (pe_and (pe_callB call_isi (by rfl) z.isinstance (by decide +kernel) (pa_cons (pv 1) (pa_cons (pe_glob (v := .ref C) (by rfl) IC.gC rfl) pa_nil))) (pe_and (pe_cmpR op_eq (pe_fld (pv 0) rfl) (pe_fld (pv 1) rfl) (nomark _)) (pe_and (pe_cmpR op_eq (pe_fld (pv 0) rfl) (pe_fld (pv 1) rfl) (nomark _)) (pe_and (pe_cmpR op_eq (pe_fld (pv 0) rfl) (pe_fld (pv 1) rfl) (nomark _)) (pe_one (pe_cmpR op_eq (pe_fld (pv 0) rfl) (pe_fld (pv 1) rfl) (nomark _))))))))), ?_⟩
    refine ⟨_, rfl, _, .ref C, .ref C, .ref C, true, rfl, .own C, .base (.ins ho2 T.cl IC.ha IC.hn IC.ht IC.hm), IC.kC, _, rfl, iteT ?_⟩
    refine ⟨_, rfl, a, C, dx, _, _, rfl, ho, T.cl, T.nW, fl_w, _, rfl, c, C, dx2, _, _, rfl, ho2, T.cl, T.nW, fl_w, (by cases ff.w <;> cases gg.w <;> rfl), _, rfl, andStep (P := fun b => ∀ H', Ext H H' → Q (.bl b) H') q (fun q => q H Ext.rfl') (fun q => ?_)⟩
    refine ⟨_, rfl, a, C, dx, _, _, rfl, ho, T.cl, T.nP, fl_p, _, rfl, c, C, dx2, _, _, rfl, ho2, T.cl, T.nP, fl_p, rfl, _, rfl, andStep (P := fun b => ∀ H', Ext H H' → Q (.bl b) H') q (fun q => q H Ext.rfl') (fun q => ?_)⟩
    refine ⟨_, rfl, a, C, dx, _, _, rfl, ho, T.cl, T.nM, fl_m, _, rfl, c, C, dx2, _, _, rfl, ho2, T.cl, T.nM, fl_m, rfl, _, rfl, andStep (P := fun b => ∀ H', Ext H H' → Q (.bl b) H') q (fun q => q H Ext.rfl') (fun q => ?_)⟩
    exact ⟨_, rfl, a, C, dx, _, _, rfl, ho, T.cl, T.nE, fl_e, _, rfl, c, C, dx2, _, _, rfl, ho2, T.cl, T.nE, fl_e, rfl, q H Ext.rfl'⟩
theorem sc_Net___eq__ : FnScope ["self", "other"] ["self", "other"] (defScope s_Net___eq__) := ⟨rfl, rfl, rfl, by decide +kernel, rfl, by decide +kernel, by decide +kernel⟩
theorem ok_Net___eq__ {f : Addr} {fd : FuncData} {C CN : Addr} (T : FTxt K mg C) (IC : IsC K mg C) (TN : NTxt K mg CN) (IN : IsN K mg CN) {fF : Addr} {fdF : FuncData} (okF : FnOk P w K mg base CX0 1 fF fdF ["self", "other"] (spEqB (RFB C))) (OQ : OwnQ K C fF fdF) (F : Fun K "__eq__" "Net.__eq__" s_Net___eq__ f fd) (z : Zs mg) : FnOk P w K mg base CX0 4 f fd ["self", "other"] (spEqB (RNB K C CN)) := by
  refine F.ok sc_Net___eq__ (fun vs H Q E h => ?_) (fun cdv A outer s H vs Q E hr h => ?_)
  · obtain ⟨x, y, r, rfl, _⟩ := h
    rfl
  · obtain ⟨x, y, r, rfl, ⟨a, n, rfl, ⟨ok, dx, fl, rl, hl, pl, fv, rv, hv, b1⟩, hy⟩, q⟩ := h
    refine ⟨_, (pss_one (ps_ret (pe_and (pe_callB call_isi (by rfl) z.isinstance (by decide +kernel) (pa_cons (pv 1) (pa_cons (pe_glob (v := .ref CN) (by rfl) IN.gC rfl) pa_nil))) (pe_and (pe_cmpR (op_eqB (rcB_list RFB.mon ((RcB.imp (rcB_ins okF OQ.find OQ.fn OQ.b) (RFB.cins T IC)).eqB (fun x y r H d => by obtain ⟨a, c, _, _, rfl, rfl, _⟩ := id d; exact ⟨a, c, rfl, rfl, fun e => by subst e; exact d.self⟩))) (hr.mono (by decide))) (pe_fld (pv 0) rfl) (pe_fld (pv 1) rfl) (nomark _)) (pe_and (pe_cmpR op_eq (pe_fld (pv 0) rfl) (pe_fld (pv 1) rfl) (nomark _)) (pe_and (pe_cmpR (op_eqD hr.units) (pe_fld (pv 0) rfl) (pe_fld (pv 1) rfl) (nomark _)) (pe_and (pe_cmpR (op_eqD hr.units) (pe_fld (pv 0) rfl) (pe_fld (pv 1) rfl) (nomark _)) (pe_one (pe_cmpR op_eq (pe_fld (pv 0) rfl) (pe_fld (pv 1) rfl) (nomark _)))))))))), ?_⟩
    rcases hy with ⟨c, m, rfl, ⟨_, dx2, fl2, rl2, hl2, pl2, fv2, rv2, hv2, b2⟩, rfl⟩ | ⟨⟨t, ty, _, kt⟩, rfl⟩
    · unfold eqN at q
      refine ⟨_, rfl, _, .ref CN, .ref CN, .ref CN, true, rfl, .own CN, .base (.ins b2.ob TN.cl IN.ha IN.hn IN.ht IN.hm), IN.kC, _, rfl, iteT ?_⟩
      refine ⟨_, rfl, a, CN, dx, _, _, rfl, b1.ob, TN.cl, TN.n_form_list, nl_f, _, rfl, c, CN, dx2, _, _, rfl, b2.ob, TN.cl, TN.n_form_list, nl_f, _, fsAt_cmp b1.fa b2.fa b1.fs b2.fs, fun H1 e1 => ?_⟩
      replace b1 := b1.same e1
      replace b2 := b2.same e1
      refine ⟨_, rfl, andStep (P := fun b => ∀ H', Ext H H' → Q (.bl b) H') q (fun q => q _ e1) (fun q => ?_)⟩
      refine ⟨_, rfl, a, CN, dx, _, _, rfl, b1.ob, TN.cl, TN.n_enters_at, nl_e, _, rfl, c, CN, dx2, _, _, rfl, b2.ob, TN.cl, TN.n_enters_at, nl_e, rfl, _, rfl, andStep (P := fun b => ∀ H', Ext H H' → Q (.bl b) H') q (fun q => q _ e1) (fun q => ?_)⟩
      refine ⟨_, rfl, a, CN, dx, _, _, rfl, b1.ob, TN.cl, TN.n_row_list, nl_r, _, rfl, c, CN, dx2, _, _, rfl, b2.ob, TN.cl, TN.n_row_list, nl_r, _, _, .lst (SqL.of b1.ra) (tsAt_dp b1.rs (rows_pla _)), .lst (SqL.of b2.ra) (tsAt_dp b2.rs (rows_pla _)), tD_shaped (rows_pla _), tD_shaped (rows_pla _), _, rfl, andStep (P := fun b => ∀ H', Ext H H' → Q (.bl b) H') q (fun q => q _ e1) (fun q => ?_)⟩
      refine ⟨_, rfl, a, CN, dx, _, _, rfl, b1.ob, TN.cl, TN.n_hold_list, nl_h, _, rfl, c, CN, dx2, _, _, rfl, b2.ob, TN.cl, TN.n_hold_list, nl_h, _, _, .lst (SqL.of b1.ha) (tsAt_dp b1.hs (holds_pla _)), .lst (SqL.of b2.ha) (tsAt_dp b2.hs (holds_pla _)), tD_shaped (holds_pla _), tD_shaped (holds_pla _), _, rfl, andStep (P := fun b => ∀ H', Ext H H' → Q (.bl b) H') q (fun q => q _ e1) (fun q => ?_)⟩
      exact ⟨_, rfl, a, CN, dx, _, _, rfl, b1.ob, TN.cl, TN.n_out_at, nl_o, _, rfl, c, CN, dx2, _, _, rfl, b2.ob, TN.cl, TN.n_out_at, nl_o, rfl, q _ e1⟩
    · exact ⟨_, rfl, y, .ref CN, _, .ref CN, false, rfl, .own CN, ty, kt, _, rfl, iteF (q H Ext.rfl')⟩
end
end E1

namespace L2
open PySem PySem.Spec PyProof.Rows
/-! ### for k in a dict of the module -/
structure KKeys (K : PySem.W.Frag) (w : World) (d : Addr) (es : Array DictEntry) (n : Nat) (ks : List Str) : Prop where
  D : KDict K w d es n
  sz : es.size = ks.length
  key : ∀ (i : Nat) (z : Str), ks[i]? = some z → ∃ (en : DictEntry) (t : Tok), es[i]? = some en ∧ en.key = .str z t
def Itkk (ks : List Str) : It := ⟨fun i _ => i < ks.length, fun i H x H' => H' = H ∧ ∃ z, ks[i]? = some z ∧ x = .str z, fun i _ => ks.length ≤ i⟩
theorem turn_kk {P : Program} {w : World} {K : PySem.W.Frag} {tg : Expr} {d : Addr} {es : Array DictEntry} {n : Nat} {ks : List Str} (KK : KKeys K w d es n ks) (it : Addr) : Turn P w K tg (Itkk ks) [it] it (fun i h => h.IsKeyIter it d i ks.length n) where
  mem := List.mem_singleton.mpr rfl
  obj := fun i h st b hb => by
    cases List.mem_singleton.mp hb
    have ⟨o, ho, _, hd⟩ := st
    refine ⟨o, ho, fun v z => ?_⟩
    cases hd.symm.trans z
  keep := fun _ _ _ st k => st.at fun o e => k it (List.mem_singleton.mpr rfl) o e
  item := by
    rintro X rfl rfl rfl calm i ps s τ G E J free st (go : i < ks.length)
    have F := free it (List.mem_singleton.mpr rfl)
    obtain ⟨en, t, h1, h2⟩ := KK.key i _ (List.getElem?_eq_getElem go)
    apply next_key_item st (J.kIn _ _ KK.D.at_) rfl KK.sz h1
    intro h' st' sb
    have J2 := J.turned (t' := s.toks) (fun b _ hb e => (sb.2 b hb).trans e) F.1 F.2.1 F.2.2.2.1 F.2.2.2.2.1 F.2.2.2.2.2
    have ⟨_, c1, c2, c3⟩ := st'
    refine ⟨en.key, rfl, go_of (s := { s with heap := h' }) c1 c2 c3 (by decide) ⟨.str ks[i], G, J2, ⟨t, h2⟩, ⟨rfl, _, List.getElem?_eq_getElem go, rfl⟩, st', fun b hb => (free b hb).1⟩⟩
  done := by
    rintro X rfl rfl rfl calm i ps s τ G E J free st stop
    have F := free it (List.mem_singleton.mpr rfl)
    apply next_key_end (J.ok.hd calm) st (J.kIn _ _ KK.D.at_) rfl KK.sz stop
    exact fun h' e => ⟨rfl, J.turned (t' := s.toks) (fun b o hb q => e b o hb q) F.1 F.2.1 F.2.2.2.1 F.2.2.2.2.1 F.2.2.2.2.2⟩
  self := fun _ _ _ _ _ st h => wpAny_pyIter_keyiter st h
def iKeysK (K : PySem.W.Frag) (w : World) (td : TE) : TI := fun σ H R => td σ H fun x H1 => ∃ d es n ks, x = .ref d ∧ KKeys K w d es n ks ∧ R (Itkk ks) H1
theorem pi_keysK {X : Cx} {tg e : Expr} {td : TE} (he : PE X e td) : PI X tg e (iKeysK X.K X.w td) := by
  refine ⟨fun pins s σ H R I h => ?_⟩
  refine thn (he.run pins s σ H _ I h) fun u s1 ⟨x, H1, I1, rx, d, es, n, ks, ex, KK, q⟩ => ?_
  subst ex
  obtain rfl : u = Value.ref d := rx
  refine iter_keys KK.D.low (I1.kIn _ _ KK.D.at_) ⟨rfl, rfl, rfl⟩ rfl (pi_one (tk := s1.toks) I1 _ (turn_kk KK _) ⟨_, Heap.get?_push_size _ rfl, rfl, ?_⟩ q)
  rw [KK.sz] <;> rfl
/-- a dict made over these keys -/
theorem dc_kk {ks : List Str} {g : TG} {tt : TT} {tk tv : TE} {vs : List Nat} {σ : St} {H1 : Hp} {D : Addr} {Qd : Hp → Prop} (Pv : Nat → Hp → Prop) (h0 : Pv 0 (upd H1 D (.dK [])))
    (hs : ∀ i z H, ks[i]? = some z → Pv i H → g (.str z) (wipe σ vs) H fun σ2 H2 => wipe σ2 vs = wipe σ vs ∧ tt σ2 H2 fun b H3 =>
      if b = true then tk σ2 H3 fun y H4 => tv σ2 H4 fun u H5 => ∃ kvs k, y = kV k ∧ H5 D = some (.dK kvs) ∧ kvs.length < sizeLine ∧ Pv (i + 1) (upd H5 D (.dK (putK kvs k u))) else Pv (i + 1) H3) (hd : ∀ H, Pv ks.length H → Qd H) :
    ∃ W : Nat → Nat → Hp → Prop, (∃ m, W 0 m (upd H1 D (.dK []))) ∧ ∀ i m H, W i m H →
      ((Itkk ks).stop i H ∧ Qd H) ∨ ((Itkk ks).go i H ∧ ∃ Nx : Hp → Prop, (∀ H', Nx H' → ∃ m', m' < m ∧ W (i + 1) m' H') ∧ ∀ x H', (Itkk ks).yld i H x H' → g x (wipe σ vs) H' fun σ2 H2 => wipe σ2 vs = wipe σ vs ∧ tt σ2 H2 fun b H3 =>
        if b = true then tk σ2 H3 fun y H4 => tv σ2 H4 fun u H5 => ∃ kvs k, y = kV k ∧ H5 D = some (.dK kvs) ∧ kvs.length < sizeLine ∧ Nx (upd H5 D (.dK (putK kvs k u))) else Nx H3) := by
  refine ⟨fun i m H => m = ks.length - i ∧ i ≤ ks.length ∧ Pv i H, ⟨ks.length, by simp, Nat.zero_le _, h0⟩, ?_⟩
  rintro i m H ⟨rfl, hi, p⟩
  by_cases hlt : i < ks.length
  · refine .inr ⟨hlt, Pv (i + 1), fun H' p' => ⟨ks.length - (i + 1), by omega, rfl, hlt, p'⟩, fun x H' y => ?_⟩
    obtain ⟨rfl, z, hz, rfl⟩ := y
    exact hs i z _ hz p
  · obtain rfl : i = ks.length := by omega
    exact .inl ⟨Nat.le_refl _, hd H p⟩
/-! ### name = {..} on one line, the name a local: the model stores the dict before it lets the block go -/
theorem dsw_true {k v : Expr} {gs : List Comprehension} {scope : Scope} {p q : Pos} {y : Str} {l : Nat} {env : Env} (h1 : env.blockKind = .function) (h2 : env.kindOf y = some .local) (h3 : (q.line == p.line) = true)
    (h4 : scope.names.any (fun z => z.1 == y && (z.2 == .local || z.2 == .cell)) = false) : swapsWith (.DictComp k v gs scope p) (some (.Name y q)) l env = pure true := by
  show (pure (env.blockKind == .function && env.kindOf y == some .local && q.line == p.line && !scope.names.any fun z => z.1 == y && (z.2 == .local || z.2 == .cell)) : Sem Bool) = _
  simp [h1, h2, h3, h4]
theorem ps_setDc {X : Cx} {j : Nat} {y : Str} {q p sp : Pos} {k v tg it : Expr} {ifs : List Expr} {scope : Scope} {own : List (Str × Nat)} {wi : TI} {g : TG} {tt : TT} {tk tv : TE} (hc : X.calm = true) (hN : X.N.Nodup) (hj : X.N[j]? = some y) (hl : X.env.scope.names.lookup y = some .local)
    (sw : swapsWith (.DictComp k v [⟨tg, it, ifs, 0⟩] scope p) (some (.Name y q)) sp.line X.env = pure true) (hi : PI X tg it wi) (ok : BlkOk X.N X.env.scope scope own)
    (hg : ∀ (s : Shared) (H : Hp) (C : Addr) (cl : List (Str × Addr)) (fp : List Addr), PG (X.blk s H scope (compEnvC scope cl C X.env) fp) tg g) (ht : ∀ (s : Shared) (H : Hp) (C : Addr) (cl : List (Str × Addr)) (fp : List Addr), PTs (X.blk s H scope (compEnvC scope cl C X.env) fp) ifs tt)
    (hk : ∀ (s : Shared) (H : Hp) (C : Addr) (cl : List (Str × Addr)) (fp : List Addr), PE (X.blk s H scope (compEnvC scope cl C X.env) fp) k tk) (hv : ∀ (s : Shared) (H : Hp) (C : Addr) (cl : List (Str × Addr)) (fp : List Addr), PE (X.blk s H scope (compEnvC scope cl C X.env) fp) v tv)
    (hf : ∀ x, foldedSetIterable it X.env x = pure x := by intro _; rfl) : PS X (.Assign [.Name y q] (.DictComp k v [⟨tg, it, ifs, 0⟩] scope p) sp) (tAsg (tDc wi g tt tk tv (own.map (·.2))) (gName j)) := by
  constructor
  intro pins s σ H D I h
  have core : wpAny (model X.prog X.w) X.A (comprehension (.DictComp k v [⟨tg, it, ifs, 0⟩] scope p) scope X.env (firstIterPos [⟨tg, it, ifs, 0⟩] p) newDict false (eval it X.env) (some (assign (.Name y q) X.env))) (fun _ s' => SP X pins D .next s') X.xe s := by
    refine dc_core hc hN I hi ok hg ht hk hv hf (Q := fun x G => gName j x σ G D.nx) h ?_
    intro B C s1 m G J z hn ⟨_, f1, f2, f3, f4, f5⟩
    refine wpAny_assign_Name (store_ok2 (v := V.ref B) J hN hj (.inl hl) rfl (fun s2 J2 ⟨b, kp, hb⟩ => ?_) (.inr hl))
    have ne : C ≠ b := hb.elim (fun e => e ▸ f1) fun e w => f4 y b e w.symm
    exact ⟨m, hn.sameBut kp ne, fun h3 k3 => ⟨_, G, J2.turned (t' := s2.toks) (fun b o hb e => (k3.2 b hb).trans e) ‹_› f1 f3 f4 f5, z⟩⟩
  rw [exec_Assign_Name_used _ _ _ _ sw]
  exact wpAny_bind (wpAny_standAt (wpAny_bind (wpAny_bind (thn core fun _ _ e => wpAny_pure (wpAny_pure e)))))
end L2

namespace E1
open PySem PySem.Spec PyProof.Rows L2
/-- {x} of an instance with a text of its own -/
def tFmtO (C : Addr) (sp : Sp) (te : TE) : TE := fun σ H Q => te σ H fun x H1 => rOwnS C sp [x] H1 Q
structure FmtO (K : PySem.W.Frag) (C : Addr) : Prop where
  fm : PySem.W.findIn K (.ref C) "__format__" = some (some (.builtin "object.__format__"))
  ob : PySem.W.mroIn K C (.type "object") = some true
theorem pe_fmtO {X : Cx} {k j : Nat} {C f : Addr} {fd : FuncData} {ps : List Str} {sp : Sp} {e : Expr} {te : TE} {pos : Pos} (F : FnOk X.prog X.w X.K X.mg X.base CX0 k f fd ps sp) (hb : Binds X.K fd ps []) (M : OwnM X.K C "__str__" f) (N : FmtO X.K C) (hr : Room j X.A) (he : PE X e te) (hle : k + 1 ≤ j := by decide) : PE X (.FormattedValue e (-1) none pos) (tFmtO C sp te) := by
  refine ⟨fun pins s σ H Q I h => ?_⟩
  refine wpAny_FormattedValue_plain (thn (he.run pins s σ H _ I h) fun v s1 ⟨x, H1, I1, r1, q⟩ => ?_)
  obtain ⟨a, dx, fs, e1, ha, q⟩ := q
  cases e1
  cases r1
  obtain ⟨mA, J, _⟩ := ins_get I1.hok ha
  obtain ⟨od, J, _⟩ := J.look
  have rm : Room k X.A.in1 := (hr.mono hle).in1
  refine PySem.W.kfo_fieldS rm.units0 I1.kIn J N.fm N.ob M.find M.fn (wpAny_mono (run_own (vs := [.ref a]) F rm rfl hb (I1.tok (s1.toks + 1)) (.cons rfl .nil) q) (fun v s' hv => ?_) fun _ _ e => e)
  obtain ⟨z, H2, I2, rz, y, rfl, q2⟩ := hv
  obtain ⟨t, rfl⟩ := rz
  exact ⟨.str y, H2, I2, ⟨t, rfl⟩, q2⟩
end E1

namespace E1
open PySem PySem.Spec PyProof.Rows L2
/-! ### the lines of a net -/
def Row.nums : Row → List Int
  | .inn => []
  | .old k => [(k : Int)]
  | .times f m a => [f, (m : Int), (a : Int)]
  | .plus a b => [(a : Int), (b : Int)]
  | .less a b => [(a : Int), (b : Int)]
  | .move m a => [m, (a : Int)]
  | .keep f a => [(f : Int), (a : Int)]
theorem Row.vs_eq (r : Row) : r.vs = .str r.kd.s :: r.nums.map V.int := by cases r <;> rfl
theorem Row.nums_len (r : Row) : r.nums.length + 1 = r.kd.n := by cases r <;> rfl
theorem Row.nums_le (r : Row) : r.nums.length ≤ 3 := by cases r <;> exact Nat.le_of_ble_eq_true rfl
def Hold.nums (h : Hold) : List Int := [(h.k : Int), h.s, (h.l : Int)]
theorem Hold.vs_eq (h : Hold) : h.vs = h.nums.map V.int := rfl
def Kd7.l : Kd7 → List Nat
  | .inn => [105, 110]
  | .old => [111, 108, 100]
  | .times => [116, 105, 109, 101, 115]
  | .plus => [112, 108, 117, 115]
  | .less => [108, 101, 115, 115]
  | .move => [109, 111, 118, 101]
  | .keep => [107, 101, 101, 112]
theorem Kd7.l_str (k : Kd7) : k.s = SX.S k.l := by cases k <;> rfl
def formW : List Nat := [102, 111, 114, 109]
def enterW : List Nat := [101, 110, 116, 101, 114, 115]
def holdW : List Nat := [104, 111, 108, 100]
def outW : List Nat := [111, 117, 116]
def lineL (w : List Nat) (ns : List Int) : List Nat := TL.joinL [32] (w :: ns.map itx)
def formLn (f : FormP) : List Nat := formW ++ 32 :: formT f.w f.pt f.m f.st
def rowLn (r : Row) : List Nat := lineL r.kd.l r.nums
def holdLn (h : Hold) : List Nat := lineL holdW h.nums
def NetP.lines (n : NetP) : List (List Nat) := n.fs.map formLn ++ (lineL enterW [(n.en : Int)] :: (n.rows.map rowLn ++ (n.holds.map holdLn ++ [lineL outW [(n.out : Int)]])))
def NetP.text (n : NetP) : List Nat := TL.joinL [10] n.lines
/-- a net whose numbers can be written -/
structure NetT (n : NetP) : Prop where
  ok : NetOk n
  hs : ∀ h ∈ n.holds, h.s.natAbs < 2 ^ 70
abbrev Sm (ns : List Int) : Prop := ∀ n ∈ ns, n.natAbs < 10 ^ 400
theorem sm_nat {k : Nat} (h : k ≤ 1000) : ((k : Nat) : Int).natAbs < 10 ^ 400 := Nat.lt_of_le_of_lt (show ((k : Nat) : Int).natAbs ≤ 1000 by omega) (by decide +kernel)
theorem sm_70 {i : Int} (h : i.natAbs < 2 ^ 70) : i.natAbs < 10 ^ 400 := Nat.lt_trans h (by decide +kernel)
theorem row_sm {hc fc i : Nat} {r : Row} (h : RowOk hc fc i r) (hi : i ≤ 60) (hh : hc ≤ 6) (hf : fc ≤ 12) : Sm r.nums := by
  intro x hx
  cases r with
  | inn => cases hx
  | old k =>
    have : k < hc := h
    rw [List.mem_singleton.mp hx]
    exact sm_nat (by omega)
  | times f m a =>
    obtain ⟨h1, h2, h3⟩ := h
    simp only [Row.nums, List.mem_cons, List.not_mem_nil, or_false] at hx
    rcases hx with rfl | rfl | rfl
    · exact sm_70 (Nat.lt_of_lt_of_le h1 (by decide))
    · exact sm_nat (by omega)
    · exact sm_nat (by omega)
  | plus a b =>
    obtain ⟨h1, h2⟩ := h
    simp only [Row.nums, List.mem_cons, List.not_mem_nil, or_false] at hx
    rcases hx with rfl | rfl <;> exact sm_nat (by omega)
  | less a b =>
    obtain ⟨h1, h2⟩ := h
    simp only [Row.nums, List.mem_cons, List.not_mem_nil, or_false] at hx
    rcases hx with rfl | rfl <;> exact sm_nat (by omega)
  | move m a =>
    obtain ⟨h1, h2⟩ := h
    simp only [Row.nums, List.mem_cons, List.not_mem_nil, or_false] at hx
    rcases hx with rfl | rfl
    · exact sm_70 (Nat.lt_of_le_of_lt h1 (by decide))
    · exact sm_nat (by omega)
  | keep f a =>
    obtain ⟨h1, h2⟩ := h
    simp only [Row.nums, List.mem_cons, List.not_mem_nil, or_false] at hx
    rcases hx with rfl | rfl <;> exact sm_nat (by omega)
theorem NetT.row {n : NetP} (t : NetT n) {r : Row} (h : r ∈ n.rows) : Sm r.nums := by
  obtain ⟨i, hi⟩ := List.getElem?_of_mem h
  have il := (List.getElem?_eq_some_iff.mp hi).1
  have := t.ok.r2
  exact row_sm (t.ok.ro i r hi) (by omega) t.ok.h2 t.ok.f2
theorem NetT.hold {n : NetP} (t : NetT n) {h : Hold} (hm : h ∈ n.holds) : Sm h.nums := by
  obtain ⟨h1, _, x, hx⟩ := t.ok.ho h hm
  have hl := (List.getElem?_eq_some_iff.mp hx).1
  have := t.ok.r2
  have := t.ok.f2
  intro y hy
  simp only [Hold.nums, List.mem_cons, List.not_mem_nil, or_false] at hy
  rcases hy with rfl | rfl | rfl
  · exact sm_nat (by omega)
  · exact sm_70 (t.hs h hm)
  · exact sm_nat (by omega)
theorem NetT.enter {n : NetP} (t : NetT n) : Sm [(n.en : Int)] := fun x hx => by
  have := t.ok.en
  have := t.ok.f2
  rw [List.mem_singleton.mp hx]
  exact sm_nat (by omega)
theorem NetT.outs {n : NetP} (t : NetT n) : Sm [(n.out : Int)] := fun x hx => by
  have := t.ok.out
  have := t.ok.r2
  rw [List.mem_singleton.mp hx]
  exact sm_nat (by omega)
theorem join_mem {s c : Nat} : ∀ {ps : List (List Nat)}, c ∈ TL.joinL [s] ps → c = s ∨ ∃ p ∈ ps, c ∈ p
  | [], h => by cases h
  | [p], h => .inr ⟨p, List.mem_cons_self, h⟩
  | p :: q :: r, h => by
    have h' : c ∈ p ++ ([s] ++ TL.joinL [s] (q :: r)) := h
    rcases List.mem_append.mp h' with h' | h'
    · exact .inr ⟨p, List.mem_cons_self, h'⟩
    · rcases List.mem_append.mp h' with h' | h'
      · exact .inl (List.mem_singleton.mp h')
      · rcases join_mem h' with h' | ⟨x, hx, hc⟩
        · exact .inl h'
        · exact .inr ⟨x, List.mem_cons_of_mem _ hx, hc⟩
theorem itx_no {n : Int} (h : n.natAbs < 10 ^ 400) {c : Nat} (hc : c = 10 ∨ c = 32) : c ∉ itx n := fun m => by
  have := itx_digs h m
  omega
theorem line_no10 {w : List Nat} {ns : List Int} (hw : 10 ∉ w) (h : Sm ns) : 10 ∉ lineL w ns := fun m => by
  rcases join_mem m with e | ⟨p, hp, hc⟩
  · cases e
  · rcases List.mem_cons.mp hp with rfl | hp
    · exact hw hc
    · obtain ⟨x, hx, rfl⟩ := List.mem_map.mp hp
      exact itx_no (h x hx) (.inl rfl) hc
theorem line_spl {w : List Nat} {ns : List Int} (hw : 32 ∉ w) (h : Sm ns) : TL.spl [32] 0 [] (lineL w ns) = w :: ns.map itx := by
  refine SX.spl_join (List.cons_ne_nil _ _) fun p hp => ?_
  rcases List.mem_cons.mp hp with rfl | hp
  · exact hw
  · obtain ⟨x, hx, rfl⟩ := List.mem_map.mp hp
    exact itx_no (h x hx) (.inr rfl)
theorem line_part {w : List Nat} {ns : List Int} (hw : 32 ∉ w) : ∃ z u : Str, Txt.partition (SX.S (lineL w ns)) (SX.S [32]) = (SX.S w, z, u) := by
  cases ns with
  | nil => exact ⟨_, _, SX.partition_none (a := w) (List.cons_ne_nil _ _) (SX.par_head_none hw)⟩
  | cons n r => exact ⟨_, _, SX.partition_some (a := w ++ (32 :: [] ++ TL.joinL [32] ((n :: r).map itx))) (b := [32]) (List.cons_ne_nil _ _) (SX.par_head (sep := []) _ hw)⟩
theorem form_part (f : FormP) : ∃ z : Str, Txt.partition (SX.S (formLn f)) (SX.S [32]) = (SX.S formW, z, SX.S (formT f.w f.pt f.m f.st)) :=
  ⟨_, SX.partition_some (a := formW ++ (32 :: [] ++ formT f.w f.pt f.m f.st)) (b := [32]) (List.cons_ne_nil _ _) (SX.par_head (sep := []) _ (by decide))⟩
theorem itx_len {n : Int} (h : n.natAbs < 10 ^ 400) : (itx n).length ≤ 401 := figd_len (itx_figd h).1
theorem line_len {w : List Nat} : ∀ {ns : List Int}, Sm ns → (lineL w ns).length ≤ w.length + 402 * ns.length
  | [], _ => Nat.le_refl _
  | [n], h => by
    have := itx_len (h n List.mem_cons_self)
    show (w ++ ([32] ++ itx n)).length ≤ _
    simp only [List.length_append, List.length_singleton]
    omega
  | n :: m :: r, h => by
    have := itx_len (h n List.mem_cons_self)
    have ih := line_len (w := itx n) (ns := m :: r) fun x hx => h x (List.mem_cons_of_mem _ hx)
    show (w ++ ([32] ++ lineL (itx n) (m :: r))).length ≤ _
    simp only [List.length_append, List.length_cons, List.length_nil] at ih ⊢
    omega
theorem wholes_back {ns : List Int} (h : Sm ns) : wholesL (ns.map itx) = some ns := by
  unfold wholesL
  rw [if_pos, List.map_map]
  · congr 1
    exact (List.map_congr_left (g := id) fun m hm => (itx_figd (h m hm)).2).trans (List.map_id _)
  · rw [List.all_map, List.all_eq_true]
    exact fun m hm => itx_numb (h m hm)
theorem Kd7.no10 (k : Kd7) : 10 ∉ k.l ∧ 32 ∉ k.l ∧ k.l.length ≤ 5 := by cases k <;> decide
theorem formT_no10 {f : FormP} (fo : f.Ok) : 10 ∉ formT f.w f.pt f.m f.st := fun m => by
  rw [formT_join] at m
  rcases join_mem m with e | ⟨p, hp, hc⟩
  · cases e
  · simp only [List.mem_cons, List.not_mem_nil, or_false] at hp
    rcases hp with rfl | rfl | rfl
    · rcases List.mem_append.mp hc with hc | hc
      · cases hw : f.w with
        | none =>
          rw [hw] at hc
          exact absurd hc (by decide)
        | some x =>
          rw [hw] at hc
          obtain ⟨a, b⟩ := fo.wo x hw
          exact itx_no (small_ten (n := x) (by omega)) (.inl rfl) hc
      · rcases List.mem_cons.mp hc with hc | hc
        · cases hc
        · exact itx_no (small_ten ⟨fo.p0, fo.p1⟩) (.inl rfl) hc
    · revert hc
      cases f.m <;> decide
    · revert hc
      cases f.st <;> decide
theorem formLn_no10 {f : FormP} (fo : f.Ok) : 10 ∉ formLn f := fun m => by
  rcases List.mem_append.mp m with m | m
  · exact absurd m (by decide)
  · rcases List.mem_cons.mp m with m | m
    · cases m
    · exact formT_no10 fo m
theorem formLn_len {f : FormP} (fo : f.Ok) : (formLn f).length ≤ 40 := by
  have := formT_len f.m f.st fo.wo ⟨fo.p0, fo.p1⟩
  unfold formLn
  rw [List.length_append, List.length_cons]
  show 4 + _ ≤ 40
  omega
theorem NetT.line {n : NetP} (t : NetT n) {l : List Nat} (h : l ∈ n.lines) : 10 ∉ l ∧ l.length ≤ 1300 := by
  unfold NetP.lines at h
  rcases List.mem_append.mp h with h | h
  · obtain ⟨f, hf, rfl⟩ := List.mem_map.mp h
    have := formLn_len (t.ok.fo f hf)
    exact ⟨formLn_no10 (t.ok.fo f hf), by omega⟩
  · rcases List.mem_cons.mp h with rfl | h
    · have := line_len (w := enterW) t.enter
      exact ⟨line_no10 (by decide) t.enter, by simp only [List.length_singleton] at this; have : enterW.length = 6 := rfl; omega⟩
    · rcases List.mem_append.mp h with h | h
      · obtain ⟨r, hr, rfl⟩ := List.mem_map.mp h
        obtain ⟨k1, _, k3⟩ := r.kd.no10
        have := line_len (w := r.kd.l) (t.row hr)
        have := r.nums_le
        exact ⟨line_no10 k1 (t.row hr), by show (lineL r.kd.l r.nums).length ≤ _; omega⟩
      · rcases List.mem_append.mp h with h | h
        · obtain ⟨x, hx, rfl⟩ := List.mem_map.mp h
          have := line_len (w := holdW) (t.hold hx)
          have e : x.nums.length = 3 := rfl
          have e2 : holdW.length = 4 := rfl
          exact ⟨line_no10 (by decide) (t.hold hx), by show (lineL holdW x.nums).length ≤ _; omega⟩
        · rw [List.mem_singleton.mp h]
          have := line_len (w := outW) t.outs
          exact ⟨line_no10 (by decide) t.outs, by simp only [List.length_singleton] at this; have : outW.length = 3 := rfl; omega⟩
theorem lines_len (n : NetP) : n.lines.length = n.fs.length + 1 + n.rows.length + n.holds.length + 1 := by
  unfold NetP.lines
  simp only [List.length_append, List.length_map, List.length_cons, List.length_nil]
  omega
theorem text_spl {n : NetP} (t : NetT n) : TL.spl [10] 0 [] n.text = n.lines := by
  refine SX.spl_join (fun e => ?_) fun p hp => (t.line hp).1
  have := lines_len n
  rw [e] at this
  simp only [List.length_nil] at this
  omega
theorem joins_len {s m : Nat} : ∀ {ps : List (List Nat)}, (∀ p ∈ ps, p.length ≤ m) → (TL.joinL [s] ps).length ≤ (m + 1) * ps.length
  | [], _ => Nat.zero_le _
  | [p], h => by
    have := h p List.mem_cons_self
    show p.length ≤ (m + 1) * 1
    omega
  | p :: q :: r, h => by
    have := h p List.mem_cons_self
    have ih := joins_len (s := s) (ps := q :: r) fun x hx => h x (List.mem_cons_of_mem _ hx)
    show (p ++ ([s] ++ TL.joinL [s] (q :: r))).length ≤ (m + 1) * ((q :: r).length + 1)
    rw [Nat.mul_succ]
    simp only [List.length_append, List.length_singleton]
    omega
theorem NetT.text_len {n : NetP} (t : NetT n) : n.text.length ≤ 110000 := by
  have h := joins_len (s := 10) (m := 1300) (ps := n.lines) fun p hp => (t.line hp).2
  have := lines_len n
  have := t.ok.f2
  have := t.ok.r2
  have := t.ok.h2
  have : n.lines.length ≤ 80 := by omega
  show (TL.joinL [10] n.lines).length ≤ _
  omega
end E1

namespace E1
open PySem PySem.Spec PyProof.Rows L2

def spShowRow (K : PySem.W.Frag) : Sp := fun vs H Q _ => ∃ (a : Addr) (wd : List Nat) (ns : List Int), vs = [.ref a] ∧ SqT K H a (.str (SX.S wd) :: ns.map V.int) ∧ wd.length ≤ 10 ∧ ns.length ≤ 5 ∧ Sm ns ∧ ∀ H', Same H H' → Q (sV (lineL wd ns)) H'
def spShowNet (C CN : Addr) : Sp := fun vs H Q _ => ∃ (p : Addr) (n : NetP), vs = [.ref p] ∧ NetAt C CN H p n ∧ NetT n ∧ ∀ H', Same H H' → Q (sV n.text) H'
theorem sum_S {m : Nat} : ∀ {ps : List (List Nat)}, (∀ p ∈ ps, p.length ≤ m) → ((ps.map SX.S).map (·.length)).sum ≤ m * ps.length
  | [], _ => Nat.le_refl _
  | p :: ps, h => by
    have := h p List.mem_cons_self
    have ih := sum_S (ps := ps) fun x hx => h x (List.mem_cons_of_mem _ hx)
    rw [List.map_cons, List.map_cons, List.sum_cons, List.length_cons, Nat.mul_succ, SX.S_len]
    omega
theorem cut_one {xs : List V} {x : V} : cutV (x :: xs) (some 1) none = xs := by
  unfold cutV
  rw [HT.sIx_none, show (some (1 : Int)) = some ((1 : Nat) : Int) from rfl, HT.sIx_nat]
  show (List.drop (min 1 (xs.length + 1)) (x :: xs)).take _ = xs
  rw [show min 1 (xs.length + 1) = 1 by omega]
  exact List.take_of_length_le (by show xs.length ≤ xs.length + 1 - 1; omega)
section
variable {P : Program} {w : World} {K : PySem.W.Frag} {mg : Str → Option Value} {base : Heap}
theorem sc_show_row : FnScope ["row", "number"] ["row"] (defScope s_show_row) := ⟨rfl, rfl, rfl, by decide +kernel, rfl, by decide +kernel, by decide +kernel⟩
theorem ok_show_row {f : Addr} {fd : FuncData} {k : Nat} (F : Fun K "show_row" "show_row" s_show_row f fd) : FnOk P w K mg base CX0 (k + 1) f fd ["row"] (spShowRow K) := by
  refine F.ok sc_show_row (fun vs H Q E h => ?_) (fun cdv A outer s H vs Q E hr h => ?_)
  · obtain ⟨a, wd, ns, rfl, _⟩ := h
    rfl
  · obtain ⟨a, wd, ns, rfl, hS, lw, ln, sm, q⟩ := h
    refine ⟨_, (pss_one (ps_ret (pe_join pe_str (pe_lst (pa_cons (pe_ix ix_tup (pv 0) pe_int (fun _ _ => rfl)) (StX.pa_star (pe_lc (own := [("number", 1)]) (g := gName 1) (tt := tYes) (te := tFmt (tVar 1)) (by rfl) sc_show_row.nd (pi_tup (pe_slice sl_tupA (pv 0) (po_some pe_int) po_none)) (blkOk_by (own := [("number", 1)]) (N := ["row", "number"]) (sc := defScope s_show_row) (by decide +kernel)) (fun _ _ _ _ _ => by exact (pg_name (i := 1) sc_show_row.nd rfl (.inl rfl))) (fun _ _ _ _ _ => by exact pts_nil) (fun _ _ _ _ _ => by exact (pe_joined1 (pe_fmt (pv 1))))) pa_nil)))))), ?_⟩
    refine ⟨⟨_, rfl⟩, _, rfl, a, _, 0, .str (SX.S wd), rfl, rfl, hS, a0, _, rfl, _, rfl, a, _, rfl, hS, fun e => absurd e.1 ?_, fun _ p hp => ?_⟩
    · rw [show (some (1 : Int)) = some ((1 : Nat) : Int) from rfl, HT.sIx_nat, List.length_cons]
      omega
    rw [cut_one]
    generalize hG : upd _ p _ = H1
    obtain ⟨s1, h_p⟩ := upd_gen hG hp
    refine ⟨p, rfl, ⟨_, SqT.of h_p⟩, fun Da hD => ?_⟩
    refine lc_it (walk_tup (K := K) (a := p) (xs := ns.map V.int)) (fun i H4 => Same H1 H4 ∧ H4 Da = some (.lst ((ns.take i).map fun n => sV (itx n)))) ⟨same_new hD, upd_same⟩ (fun i H4 hi hP => Same.tup hP.1 (SqT.of h_p)) (fun i x' H4 H5 hi hP hy => ?_) (fun H4 hP => ?_)
    · obtain ⟨s4, hD4⟩ := hP
      obtain ⟨rfl, hx⟩ := hy
      rw [List.getElem?_map] at hx
      obtain ⟨n, hn, rfl⟩ := Option.map_eq_some_iff.mp hx
      refine ⟨rfl, _, rfl, .inr ⟨n, rfl, log_ten (sm n (List.mem_of_getElem? hn)), ?_⟩⟩
      rw [int_itx]
      exact list_grow (p := fun n => sV (itx n)) (by omega) hD s4 hD4 (Same.refl _) hn
    obtain ⟨s4, hD4⟩ := hP
    rw [List.length_map, List.take_length] at hD4
    refine ⟨Da, _, rfl, .inr (SqL.of hD4), sl_le ?_, fun L hL => ?_⟩
    · simp only [List.length_cons, List.length_append, List.length_map, List.length_nil]
      omega
    generalize hGL : upd _ L _ = GL
    obtain ⟨sL, h_L⟩ := upd_gen hGL hL
    refine ⟨_, L, (wd :: ns.map itx).map SX.S, rfl, rfl, .inl (SqL.of ?_), ?_, ?_⟩
    · rw [h_L, List.append_nil, List.map_map, List.map_cons, List.map_map]
      rfl
    · have := sum_S (m := 401) (ps := wd :: ns.map itx) fun p hp => by
        rcases List.mem_cons.mp hp with rfl | hp
        · omega
        · obtain ⟨x, hx, rfl⟩ := List.mem_map.mp hp
          exact itx_len (sm x hx)
      have e1 : (Str.ofString " ").length = 1 := rfl
      rw [e1]
      simp only [List.length_cons, List.length_map] at this ⊢
      omega
    · have e := SX.join_S [32] (wd :: ns.map itx)
      show Q (.str (Txt.join (SX.S [32]) ((wd :: ns.map itx).map SX.S))) GL
      rw [e]
      exact q _ ((s1.trans s4).trans sL)
end
end E1

namespace E1
open PySem PySem.Spec PyProof.Rows L2
def tFormL (C : Addr) (i : Nat) : TE := fun σ H Q => tJs [tC (.str "form "), tFmtO C (spStrF C) (tVar i)] Str.empty σ H fun out H1 => Q (.str out) H1
theorem form_str (f : FormP) : Str.empty ++ Str.ofString "form " ++ strF f.w f.pt f.m f.st = SX.S (formLn f) := by
  rw [strF_S, show Str.ofString "form " = SX.S (formW ++ [32]) from rfl, show Str.empty = SX.S [] from rfl, SX.S_cat, SX.S_cat]
  rfl
def spOutM (C CN : Addr) : Sp := fun vs H Q _ => ∃ (p : Addr) (n : NetP), vs = [.ref p] ∧ NetAt C CN H p n ∧ Q (.int n.out) H
section
variable {P : Program} {w : World} {K : PySem.W.Frag} {mg : Str → Option Value} {base : Heap}
theorem sc_Net_out : FnScope ["self"] ["self"] (defScope s_Net_out) := ⟨rfl, rfl, rfl, by decide +kernel, rfl, by decide +kernel, by decide +kernel⟩
theorem ok_Net_out {f : Addr} {fd : FuncData} {k : Nat} {C CN : Addr} (TN : NTxt K mg CN) (F : Fun K "out" "Net.out" s_Net_out f fd) : FnOk P w K mg base CX0 (k + 1) f fd ["self"] (spOutM C CN) := by
  refine F.ok sc_Net_out (fun vs H Q E h => ?_) (fun cdv A outer s H vs Q E hr h => ?_)
  · obtain ⟨p, n, rfl, _⟩ := h
    rfl
  · obtain ⟨p, n, rfl, ⟨ok, dx, fl, rl, hl2, pl, fv, rv, hv, b⟩, q⟩ := h
    refine ⟨_, (pss_one (ps_ret (pe_fld (pv 0) rfl))), ?_⟩
    exact ⟨_, rfl, p, CN, dx, _, _, rfl, b.ob, TN.cl, TN.n_out_at, nl_o, q⟩
theorem sc_show_net : FnScope ["net", "lines", "form", "row", "hold"] ["net"] (defScope s_show_net) := ⟨rfl, rfl, rfl, by decide +kernel, rfl, by decide +kernel, by decide +kernel⟩
theorem ok_show_net {f : Addr} {fd : FuncData} {C CN : Addr} (TN : NTxt K mg CN) (F : Fun K "show_net" "show_net" s_show_net f fd) {fS : Addr} {fdS : FuncData} (okS : FnOk P w K mg base CX0 1 fS fdS ["self"] (spStrF C)) (bS : Binds K fdS ["self"] []) (MS : OwnM K C "__str__" fS) (NF : FmtO K C) (c_show_row : Cal P w K mg base 1 "show_row" ["row"] (spShowRow K)) (n_forms : CalM P w K mg base 1 CN "forms" ["self"] (spFormsM C CN)) (n_rows : CalM P w K mg base 1 CN "rows" ["self"] (spRowsM C CN)) (n_holds : CalM P w K mg base 1 CN "holds" ["self"] (spHoldsM C CN)) (n_enters : CalM P w K mg base 1 CN "enters" ["self"] (spEnM C CN)) (n_out : CalM P w K mg base 1 CN "out" ["self"] (spOutM C CN)) : FnOk P w K mg base CX0 3 f fd ["net"] (spShowNet C CN) := by
  refine F.ok sc_show_net (fun vs H Q E h => ?_) (fun cdv A outer s H vs Q E hr h => ?_)
  · obtain ⟨p, n, rfl, _⟩ := h
    rfl
  · obtain ⟨p, n, rfl, hn, t, q⟩ := h
    refine ⟨_, (pss_cons (ps_setLc (i := 1) (own := [("form", 2)]) (g := gName 2) (tt := tYes) (te := (tFormL C 2)) (by rfl) sc_show_net.nd rfl rfl (sw_true rfl rfl rfl (by decide +kernel)) (pi_list (pe_calm0 (pv 0) TN.cl n_forms hr)) (blkOk_by (own := [("form", 2)]) (N := ["net", "lines", "form", "row", "hold"]) (sc := defScope s_show_net) (by decide +kernel)) (fun _ _ _ _ _ => by exact (pg_name (i := 2) sc_show_net.nd rfl (.inl rfl))) (fun _ _ _ _ _ => by exact pts_nil) (fun _ _ _ _ _ => by exact (pe_joined (.cons pe_str (.cons (pe_fmtO okS bS MS NF hr (pv 2)) .nil)))))
      (pss_cons (ps_expr (pe_bm PySem.F.plainAttrs_list PySem.F.slot_list_append PySem.F.type_list_append mt_append (pv 1) (pa_cons (pe_cal c_show_row hr (pa_cons (pe_tup (pa_cons pe_str (pa_cons (pe_calm0 (pv 0) TN.cl n_enters hr) pa_nil))) pa_nil)) pa_nil)))
      (pss_cons (ps_aug (i := 1) sc_show_net.nd rfl (.inl rfl) (pe_lc (own := [("row", 3)]) (g := gName 3) (tt := tYes) (te := (tCall (spShowRow K) [] E0 (tCons (tVar 3) tNil))) (by rfl) sc_show_net.nd (pi_list (pe_calm0 (pv 0) TN.cl n_rows hr)) (blkOk_by (own := [("row", 3)]) (N := ["net", "lines", "form", "row", "hold"]) (sc := defScope s_show_net) (by decide +kernel)) (fun _ _ _ _ _ => by exact (pg_name (i := 3) sc_show_net.nd rfl (.inl rfl))) (fun _ _ _ _ _ => by exact pts_nil) (fun _ _ _ _ _ => by exact (pe_cal c_show_row hr (pa_cons (pv 3) pa_nil)))) iop_ext)
      (pss_cons (ps_aug (i := 1) sc_show_net.nd rfl (.inl rfl) (pe_lc (own := [("hold", 4)]) (g := gName 4) (tt := tYes) (te := tCall (spShowRow K) [] E0 (tCons (tTup (tCons (tC (.str "hold")) (StX.tStar K (tVar 4) tNil))) tNil)) (by rfl) sc_show_net.nd (pi_list (pe_calm0 (pv 0) TN.cl n_holds hr)) (blkOk_by (own := [("hold", 4)]) (N := ["net", "lines", "form", "row", "hold"]) (sc := defScope s_show_net) (by decide +kernel)) (fun _ _ _ _ _ => by exact (pg_name (i := 4) sc_show_net.nd rfl (.inl rfl))) (fun _ _ _ _ _ => by exact pts_nil) (fun _ _ _ _ _ => by exact (pe_cal c_show_row hr (pa_cons (pe_tup (pa_cons pe_str (StX.pa_star (pv 4) pa_nil))) pa_nil)))) iop_ext)
      (pss_cons (ps_expr (pe_bm PySem.F.plainAttrs_list PySem.F.slot_list_append PySem.F.type_list_append mt_append (pv 1) (pa_cons (pe_cal c_show_row hr (pa_cons (pe_tup (pa_cons pe_str (pa_cons (pe_calm0 (pv 0) TN.cl n_out hr) pa_nil))) pa_nil)) pa_nil)))
      (pss_one (ps_ret (pe_join pe_str (pv 1))))))))), ?_⟩
    obtain ⟨ok, dx, fl, rl, hl, pl, fv, rv, hv, b⟩ := id hn
    have f12 := ok.f2
    have r60 := ok.r2
    have h6 := ok.h2
    refine ⟨_, rfl, p, dx, _, rfl, b.ob, nl_no (by decide +kernel), p, n, rfl, hn, fun l1 fv1 H1 hl1 s1 h_l1 hf1 => ?_⟩
    have lf := hf1.len
    refine ⟨l1, rfl, ⟨_, SqL.of h_l1⟩, fun D hD => ?_⟩
    refine lc_it (walk_list (K := K) (a := l1) (xs := fv1)) (fun i G => Same H1 G ∧ G D = some (.lst ((n.fs.take i).map fun f => sV (formLn f)))) ⟨same_new hD, upd_same⟩ (fun i G _ hP => SqL.of (hP.1 _ _ h_l1)) (fun i x G G' hi hP hY => ?_) (fun G hP => ?_)
    · obtain ⟨s2, hd⟩ := hP
      obtain ⟨rfl, hx⟩ := hY
      obtain ⟨fp, f, rfl, ef, hfp⟩ := hf1.get hx
      replace hfp := FormAt.same hfp s2
      obtain ⟨dxf, hof⟩ := hfp.ob
      refine ⟨rfl, ?_⟩
      refine ⟨_, rfl, ?_, _, rfl, fp, dxf, _, rfl, hof, fp, f.w, f.pt, f.m, f.st, rfl, hfp, _, rfl, _, rfl, ?_, ?_⟩
      · exact sl_le (by rw [Str.length_append]; decide)
      · rw [form_str, SX.S_len]
        have := formLn_len (ok.fo f (List.mem_of_getElem? ef))
        exact sl_le (by omega)
      · rw [form_str]
        exact list_grow (p := fun f => sV (formLn f)) (by omega) hD s2 hd (Same.refl _) ef
    obtain ⟨s2, hd⟩ := hP
    rw [lf, List.take_length] at hd
    have S2 : Same H G := Same.trans s1 s2
    have zD : H D = none := Same.free s1 hD
    clear s1 s2 hf1 h_l1 hl1 hD lf
    refine ⟨_, rfl, .inl ⟨rfl, _, SqL.of hd⟩, _, rfl, p, dx, _, rfl, S2 _ _ b.ob, nl_no (by decide +kernel), p, n, rfl, hn.same S2, (by show 2 ≤ sizeLine; decide), fun t1 ht1 => ?_⟩
    generalize hG1 : upd _ t1 _ = G1
    obtain ⟨s3, h_t1⟩ := upd_gen hG1 ht1
    refine ⟨t1, enterW, [(n.en : Int)], rfl, SqT.of h_t1, by decide, Nat.le_of_ble_eq_true rfl, t.enter, fun G2 s4 => ?_⟩
    replace s4 := s3.trans s4
    replace hd := s4 _ _ hd
    replace S2 := S2.trans s4
    refine ⟨D, _, _, rfl, rfl, hd, sl_lt (by rw [List.length_map]; omega), ?_⟩
    generalize hG3 : upd _ D _ = G3
    obtain ⟨bD, hd3⟩ := upd_but hG3
    have S3 : Same H G3 := same_but S2 bD zD
    clear bD S2 s3 s4 h_t1 hG1 hG3 ht1 hd
    refine ⟨_, rfl, _, rfl, p, dx, _, rfl, S3 _ _ b.ob, nl_no (by decide +kernel), p, n, rfl, hn.same S3, fun l2 rv2 G4 hl2 s4 h_l2 hr2 => ?_⟩
    have lr := hr2.rlen
    refine ⟨l2, rfl, ⟨_, SqL.of h_l2⟩, fun D2 hD2 => ?_⟩
    refine lc_it (walk_list (K := K) (a := l2) (xs := rv2)) (fun i G => Same G4 G ∧ G D2 = some (.lst ((n.rows.take i).map fun r => sV (rowLn r)))) ⟨same_new hD2, upd_same⟩ (fun i G _ hP => SqL.of (hP.1 _ _ h_l2)) (fun i x G G' hi hP hY => ?_) (fun G hP => ?_)
    · obtain ⟨s2, hd⟩ := hP
      obtain ⟨rfl, hx⟩ := hY
      obtain ⟨rp, xs, rfl, ex, hrp⟩ := hr2.get hx
      rw [List.getElem?_map] at ex
      obtain ⟨r, er, rfl⟩ := Option.map_eq_some_iff.mp ex
      replace hrp := s2 _ _ hrp
      have rm := List.mem_of_getElem? er
      have rl := r.nums_le
      refine ⟨rfl, _, rfl, rp, r.kd.l, r.nums, rfl, by rw [← Kd7.l_str, ← Row.vs_eq]; exact SqT.of hrp, by have := r.kd.no10.2.2; omega, by omega, t.row rm, fun G2 s4 => ?_⟩
      exact list_grow (p := fun r => sV (rowLn r)) (by omega) hD2 s2 hd s4 er
    obtain ⟨s2, hd2⟩ := hP
    rw [lr, List.take_length] at hd2
    have s5 : Same G3 G := Same.trans s4 s2
    replace hd3 := s5 _ _ hd3
    have lx : ((n.fs.map fun f => sV (formLn f)) ++ [sV (lineL enterW [(n.en : Int)])]).length ≤ 20 := by
      simp only [List.length_append, List.length_map, List.length_cons, List.length_nil]
      omega
    refine ⟨D, D2, _, _, rfl, rfl, hd3, hd2, sl_le (by rw [List.length_map]; omega), ?_⟩
    replace S3 := S3.trans s5
    generalize hG5 : upd _ D _ = G5
    obtain ⟨bD, hd5⟩ := upd_but hG5
    have S5 : Same H G5 := same_but S3 bD zD
    clear bD S3 s5 s2 s4 hr2 h_l2 hl2 hd2 hd3 hD2 hG5 lr
    refine ⟨_, rfl, _, rfl, p, dx, _, rfl, S5 _ _ b.ob, nl_no (by decide +kernel), p, n, rfl, hn.same S5, fun l3 hv3 G6 hl3 s4 h_l3 hh3 => ?_⟩
    have lh := hh3.len
    rw [List.length_map] at lh
    refine ⟨l3, rfl, ⟨_, SqL.of h_l3⟩, fun D3 hD3 => ?_⟩
    refine lc_it (walk_list (K := K) (a := l3) (xs := hv3)) (fun i G => Same G6 G ∧ G D3 = some (.lst ((n.holds.take i).map fun h => sV (holdLn h)))) ⟨same_new hD3, upd_same⟩ (fun i G _ hP => SqL.of (hP.1 _ _ h_l3)) (fun i x G G' hi hP hY => ?_) (fun G hP => ?_)
    · obtain ⟨s2, hd⟩ := hP
      obtain ⟨rfl, hx⟩ := hY
      obtain ⟨hp, xs, rfl, ex, hhp⟩ := hh3.get hx
      rw [List.getElem?_map] at ex
      obtain ⟨h, eh, rfl⟩ := Option.map_eq_some_iff.mp ex
      replace hhp := s2 _ _ hhp
      have hm := List.mem_of_getElem? eh
      refine ⟨rfl, _, rfl, hp, _, rfl, .inl (SqT.of hhp), (by show 4 ≤ sizeLine; decide), fun t2 ht2 => ?_⟩
      generalize hGt : upd _ t2 _ = Gt
      obtain ⟨s3, h_t2⟩ := upd_gen hGt ht2
      refine ⟨t2, holdW, h.nums, rfl, SqT.of h_t2, by decide, by show 3 ≤ 5; decide, t.hold hm, fun G2 s4 => ?_⟩
      exact list_grow (p := fun h => sV (holdLn h)) (by omega) hD3 s2 hd (s3.trans s4) eh
    obtain ⟨s2, hd3⟩ := hP
    rw [lh, List.take_length] at hd3
    have s5 : Same G5 G := Same.trans s4 s2
    replace hd5 := s5 _ _ hd5
    refine ⟨D, D3, _, _, rfl, rfl, hd5, hd3, sl_le (by rw [List.length_append, List.length_map, List.length_map]; omega), ?_⟩
    replace S5 := S5.trans s5
    generalize hG7 : upd _ D _ = G7
    obtain ⟨bD, hd7⟩ := upd_but hG7
    have S7 : Same H G7 := same_but S5 bD zD
    clear bD S5 s5 s2 s4 hh3 h_l3 hl3 hd3 hd5 hD3 hG7 lh
    refine ⟨_, rfl, .inl ⟨rfl, _, SqL.of hd7⟩, _, rfl, p, dx, _, rfl, S7 _ _ b.ob, nl_no (by decide +kernel), p, n, rfl, hn.same S7, (by show 2 ≤ sizeLine; decide), fun t1 ht1 => ?_⟩
    generalize hG1 : upd _ t1 _ = G1
    obtain ⟨s3, h_t1⟩ := upd_gen hG1 ht1
    refine ⟨t1, outW, [(n.out : Int)], rfl, SqT.of h_t1, by decide, Nat.le_of_ble_eq_true rfl, t.outs, fun G2 s4 => ?_⟩
    replace s4 := s3.trans s4
    replace hd7 := s4 _ _ hd7
    replace S7 := S7.trans s4
    have ly : ((((n.fs.map fun f => sV (formLn f)) ++ [sV (lineL enterW [(n.en : Int)])]) ++ n.rows.map fun r => sV (rowLn r)) ++ n.holds.map fun h => sV (holdLn h)).length ≤ 90 := by
      rw [List.length_append, List.length_append, List.length_map, List.length_map]
      omega
    refine ⟨D, _, _, rfl, rfl, hd7, sl_lt (by omega), ?_⟩
    generalize hG3 : upd _ D _ = G3
    obtain ⟨bD, hd9⟩ := upd_but hG3
    have S9 : Same H G3 := same_but S7 bD zD
    have el : (((((n.fs.map fun f => sV (formLn f)) ++ [sV (lineL enterW [(n.en : Int)])]) ++ n.rows.map fun r => sV (rowLn r)) ++ n.holds.map fun h => sV (holdLn h)) ++ [sV (lineL outW [(n.out : Int)])]) = (n.lines.map SX.S).map V.str := by
      unfold NetP.lines
      simp only [List.map_append, List.map_map, List.map_cons, List.map_nil, List.append_assoc, List.cons_append, List.nil_append]
      rfl
    rw [el] at hd9
    refine ⟨⟨_, rfl⟩, _, rfl, _, D, n.lines.map SX.S, rfl, rfl, .inl (SqL.of hd9), ?_, ?_⟩
    · have := sum_S (m := 1300) (ps := n.lines) fun x hx => (t.line hx).2
      have e1 : (Str.ofString "\n").length = 1 := rfl
      have := lines_len n
      rw [e1, List.length_map]
      have : n.lines.length ≤ 80 := by omega
      omega
    · have e := SX.join_S [10] n.lines
      show Q (.str (Txt.join (SX.S [10]) (n.lines.map SX.S))) G3
      rw [e]
      exact q _ S9
end
end E1

namespace E1
open PySem PySem.Spec PyProof.Rows L2

/-- the lines of a net but those of forms and rows -/
inductive Ow3 where
  | enter | hold | out
def Ow3.l : Ow3 → List Nat
  | .enter => enterW
  | .hold => holdW
  | .out => outW
def Ow3.n : Ow3 → Nat
  | .enter => 1
  | .hold => 3
  | .out => 1
theorem Ow3.no (k : Ow3) : 32 ∉ k.l ∧ k.l ≠ formW ∧ k.l.length ≤ 6 := by cases k <;> decide
theorem Kd7.no_form (k : Kd7) : k.l ≠ formW := by cases k <;> decide
structure Oths (w : World) (K : PySem.W.Frag) (mg : Str → Option Value) (dO : Addr) (es : Array DictEntry) (n : Nat) : Prop where
  gm : mg "OTHER_LENGTHS" = some (.ref dO)
  D : KDict K w dO es n
  at_ : ∀ k : Ow3, ∃ t, PySem.W.nsIn K dO (SX.S k.l) = some (some (.int (k.n : Int) t))
def LensN (K : PySem.W.Frag) (dL : Addr) : Prop := ∀ k : Ow3, PySem.W.nsIn K dL (SX.S k.l) = some none
/-- what a good line of a net tells -/
def spPartOf (C : Addr) : Sp := fun vs H Q _ => ∃ l : List Nat, vs = [sV l] ∧
  ((∃ f : FormP, f.Ok ∧ l = formLn f ∧ ∀ t p H', Same H H' → H t = none → H' t = some (.tup [.str "form", .ref p]) → FAt C H' p f → Q (.ref t) H') ∨
   (∃ r : Row, Sm r.nums ∧ l = rowLn r ∧ ∀ t u H', Same H H' → H t = none → H' t = some (.tup [.str "row", .ref u]) → H' u = some (.tup r.vs) → Q (.ref t) H') ∨
   (∃ (k : Ow3) (ns : List Int), Sm ns ∧ ns.length = k.n ∧ l = lineL k.l ns ∧ ∀ t u H', Same H H' → H t = none → H' t = some (.tup [.str (SX.S k.l), .ref u]) → H' u = some (.tup (ns.map V.int)) → Q (.ref t) H'))
theorem sp_32 : Str.ofString " " = SX.S [32] := rfl
section
variable {P : Program} {w : World} {K : PySem.W.Frag} {mg : Str → Option Value} {base : Heap}
theorem sc_part_of_line : FnScope ["line", "word", "blank", "rest", "form", "numbers"] ["line"] (defScope s_part_of_line) := ⟨rfl, rfl, rfl, by decide +kernel, rfl, by decide +kernel, by decide +kernel⟩
theorem ok_part_of_line {f : Addr} {fd : FuncData} {C dL dO : Addr} {eL eO : Array DictEntry} {nL nO : Nat} (LE : Lens w K mg dL eL nL) (LN : LensN K dL) (OT : Oths w K mg dO eO nO) (F : Fun K "part_of_line" "part_of_line" s_part_of_line f fd) (z : Zs mg) (c_form_of : Cal P w K mg base 5 "form_of" ["text"] (spFormOf C)) (c_wholes_of : Cal P w K mg base 2 "wholes_of" ["texts"] (spWholesOf K)) : FnOk P w K mg base CX0 6 f fd ["line"] (spPartOf C) := by
  refine F.ok sc_part_of_line (fun vs H Q E h => ?_) (fun cdv A outer s H vs Q E hr h => ?_)
  · obtain ⟨l, rfl, _⟩ := h
    rfl
  · obtain ⟨l, rfl, hk⟩ := h
    refine ⟨_, (pss_cons (ps_asg (pe_partition (pv 0) pe_str) (pg_tup (by rfl) (pgs_cons (pg_name (i := 1) sc_part_of_line.nd rfl (.inl rfl)) (pgs_cons (pg_name (i := 2) sc_part_of_line.nd rfl (.inl rfl)) (pgs_cons (pg_name (i := 3) sc_part_of_line.nd rfl (.inl rfl)) pgs_nil)))))
      (pss_cons (ps_if (pt_cmpR op_eq (pv 1) pe_str (nomark _)) (pss_cons (ps_set (i := 4) sc_part_of_line.nd rfl (.inl rfl) (pe_cal c_form_of hr (pa_cons (pv 3) pa_nil)))
      (pss_one (ps_ret (pe_ifExp (pt_cmpR op_isN (pv 4) pe_non (nomark _)) pe_non (pe_tup (pa_cons pe_str (pa_cons (pv 4) pa_nil))))))) pss_nil)
      (pss_cons (ps_set (i := 5) sc_part_of_line.nd rfl (.inl rfl) (pe_cal c_wholes_of hr (pa_cons (pe_slice sl_list (pe_split (pv 0) pe_str) (po_some pe_int) po_none) pa_nil)))
      (pss_cons (ps_if (pt_cmpR op_isN (pv 5) pe_non (nomark _)) (pss_one (ps_ret pe_non)) pss_nil)
      (pss_cons (ps_if (PW.pt (pw_and (pt_cmpR (op_in_kd LE.D) (pv 1) (pe_glob (v := .ref dL) (by rfl) LE.gm rfl) (by rfl)) (pw_and1 (pt_cmpR op_eq (pe_op op_add (pe_callB call_len_seq (by rfl) z.len PySem.boot_len (pa_cons (pv 5) pa_nil)) pe_int) (pe_ix ix_kdict (pe_glob (v := .ref dL) (by rfl) LE.gm rfl) (pv 1) (fun _ _ => rfl)) (nomark _))))) (pss_one (ps_ret (pe_tup (pa_cons pe_str (pa_cons (pe_tup (pa_cons (pv 1) (StX.pa_star (pv 5) pa_nil))) pa_nil))))) pss_nil)
      (pss_cons (ps_if (PW.pt (pw_and (pt_cmpR (op_in_kd OT.D) (pv 1) (pe_glob (v := .ref dO) (by rfl) OT.gm rfl) (by rfl)) (pw_and1 (pt_cmpR op_eq (pe_callB call_len_seq (by rfl) z.len PySem.boot_len (pa_cons (pv 5) pa_nil)) (pe_ix ix_kdict (pe_glob (v := .ref dO) (by rfl) OT.gm rfl) (pv 1) (fun _ _ => rfl)) (nomark _))))) (pss_one (ps_ret (pe_tup (pa_cons (pv 1) (pa_cons (pe_callTy call_tuple_of (by rfl) z.tuple (by decide +kernel) (pa_cons (pv 5) pa_nil)) pa_nil))))) pss_nil)
      (pss_one (ps_ret pe_non)))))))), ?_⟩
    rcases hk with ⟨fm, fo, rfl, q⟩ | ⟨r, sm, el, q⟩ | ⟨k, ns, sm, ln, rfl, q⟩
    · have ll := formLn_len fo
      obtain ⟨zz, pp⟩ := form_part fm
      refine ⟨_, rfl, ⟨_, rfl⟩, _, _, rfl, rfl, rfl, (by rw [SX.S_len]; exact sl_le (by omega)), fun tp htp => ?_⟩
      rw [sp_32, pp]
      generalize hG : upd _ tp _ = G1
      obtain ⟨s1, h_tp⟩ := upd_gen hG htp
      refine ⟨tp, _, rfl, SqT.of h_tp, rfl, _, _, rfl, _, _, rfl, _, _, rfl, rfl, ?_⟩
      refine ⟨_, rfl, rfl, _, rfl, iteC (d := true) (decide_eq_true rfl) (iteT ?_)⟩
      have lt := formT_len fm.m fm.st fo.wo ⟨fo.p0, fo.p1⟩
      have rd := rdF_form fm.m fm.st fo.wo ⟨fo.p0, fo.p1⟩
      refine ⟨_, rfl, _, rfl, by omega, fun e => absurd (rd.symm.trans e) (fun z => nomatch z), fun w pt m st e p H2 s2 hp hf => ?_⟩
      cases rd.symm.trans e
      refine ⟨_, rfl, rfl, _, rfl, iteC (d := false) (decide_eq_false (fun z => nomatch z)) (iteF ⟨_, rfl, (by show 2 ≤ sizeLine; decide), fun t ht => ?_⟩)⟩
      generalize hG3 : upd _ t _ = G3
      obtain ⟨s3, h_t⟩ := upd_gen hG3 ht
      have S3 : Same H G3 := (s1.trans s2).trans s3
      exact q t p G3 S3 ((s1.trans s2).free ht) h_t (FormAt.same hf s3)
    · replace el : l = lineL r.kd.l r.nums := el
      subst el
      have rl := r.nums_le
      have rk := r.kd.no10.2.2
      have ll := line_len (w := r.kd.l) sm
      obtain ⟨zz, uu, pp⟩ := line_part (ns := r.nums) r.kd.no10.2.1
      refine ⟨_, rfl, ⟨_, rfl⟩, _, _, rfl, rfl, rfl, (by rw [SX.S_len]; exact sl_le (by show (lineL r.kd.l r.nums).length ≤ 100000; omega)), fun tp htp => ?_⟩
      rw [sp_32, pp]
      generalize hG : upd _ tp _ = G1
      obtain ⟨s1, h_tp⟩ := upd_gen hG htp
      refine ⟨tp, _, rfl, SqT.of h_tp, rfl, _, _, rfl, _, _, rfl, _, _, rfl, rfl, ?_⟩
      refine ⟨_, rfl, rfl, _, rfl, iteC (d := false) (decide_eq_false fun z => r.kd.no_form (SX.S_inj (show SX.S r.kd.l = SX.S formW from V.str.inj z))) (iteF ?_)⟩
      refine ⟨_, rfl, ⟨_, rfl⟩, _, _, rfl, rfl, rfl, (by rw [SX.S_len]; exact sl_le (by show (lineL r.kd.l r.nums).length + 2 ≤ 100000; omega)), fun Wd hWd => ?_⟩
      have s2 := same_new (o := .lst ((Txt.split (SX.S (lineL r.kd.l r.nums)) (SX.S [32])).map V.str)) hWd
      have h_W : (upd G1 Wd (.lst ((Txt.split (SX.S (lineL r.kd.l r.nums)) (SX.S [32])).map V.str))) Wd = some (.lst ((r.kd.l :: (r.nums).map itx).map sV)) := by
        rw [← line_spl r.kd.no10.2.1 sm, ← split_at 32 (by decide)]
        exact upd_same
      generalize upd G1 Wd (.lst ((Txt.split (SX.S (lineL r.kd.l r.nums)) (SX.S [32])).map V.str)) = G2 at *
      refine ⟨_, rfl, Wd, _, rfl, SqL.of h_W, fun p3 hp3 => ?_⟩
      rw [List.map_cons, cut_one]
      generalize hG3 : upd _ p3 _ = G3
      obtain ⟨s3, h_p3⟩ := upd_gen hG3 hp3
      have S3 := (s1.trans s2).trans s3
      refine ⟨p3, (r.nums).map itx, rfl, SqL.of h_p3, fun x hx => ?_, by rw [List.length_map]; omega, fun G4 s4 => ⟨fun e => absurd e (by rw [wholes_back sm]; exact fun z => nomatch z), fun pn ns2 e hpn h_pn => ?_⟩⟩
      · obtain ⟨y, hy, rfl⟩ := List.mem_map.mp hx
        have := itx_len (sm y hy)
        omega
      rw [wholes_back sm] at e
      cases e
      have S4 := S3.trans s4
      refine ⟨_, rfl, rfl, _, rfl, iteC (d := false) (decide_eq_false (fun z => nomatch z)) (iteF ?_)⟩
      obtain ⟨tk, hL⟩ := LE.at_ r.kd
      rw [Kd7.l_str] at hL
      have nl := r.nums_len
      refine ⟨_, rfl, _, _, rfl, rfl, hL, _, rfl, iteC (d := true) rfl (iteT ?_)⟩
      refine ⟨_, rfl, pn, _, rfl, .inl (SqL.of h_pn), _, _, rfl, rfl, _, rfl, dL, SX.S r.kd.l, .int (r.kd.n : Int), rfl, rfl, ⟨eL, nL, _, LE.D.at_, LE.D.lit, hL, ⟨_, rfl⟩⟩, rfl, _, rfl, iteC (d := true) (decide_eq_true (by rw [List.length_map]; exact congrArg V.int (show ((r.nums.length : Nat) : Int) + 1 = ((r.kd.n : Nat) : Int) by omega))) (iteT ?_)⟩
      refine ⟨_, rfl, _, rfl, pn, _, rfl, .inr (SqL.of h_pn), sl_le (by show (r.nums.map V.int ++ []).length + 1 ≤ 100000; rw [List.append_nil, List.length_map]; omega), fun u hu => ⟨(by show 2 ≤ sizeLine; decide), fun t ht => ?_⟩⟩
      generalize hG5 : upd _ u _ = G5 at ht ⊢
      obtain ⟨s5, h_u⟩ := upd_gen hG5 hu
      generalize hG6 : upd _ t _ = G6
      obtain ⟨s6, h_t⟩ := upd_gen hG6 ht
      refine q t u G6 ((S4.trans s5).trans s6) ((S4.trans s5).free ht) h_t (s6 _ _ ?_)
      rw [h_u, Row.vs_eq, Kd7.l_str, List.append_nil]
    have kn : k.n ≤ 3 := by cases k <;> exact Nat.le_of_ble_eq_true rfl
    have kl := k.no.2.2
    have ll := line_len (w := k.l) sm
    obtain ⟨zz, uu, pp⟩ := line_part (ns := ns) k.no.1
    refine ⟨_, rfl, ⟨_, rfl⟩, _, _, rfl, rfl, rfl, (by rw [SX.S_len]; exact sl_le (by omega)), fun tp htp => ?_⟩
    rw [sp_32, pp]
    generalize hG : upd _ tp _ = G1
    obtain ⟨s1, h_tp⟩ := upd_gen hG htp
    refine ⟨tp, _, rfl, SqT.of h_tp, rfl, _, _, rfl, _, _, rfl, _, _, rfl, rfl, ?_⟩
    refine ⟨_, rfl, rfl, _, rfl, iteC (d := false) (decide_eq_false fun z => k.no.2.1 (SX.S_inj (show SX.S k.l = SX.S formW from V.str.inj z))) (iteF ?_)⟩
    refine ⟨_, rfl, ⟨_, rfl⟩, _, _, rfl, rfl, rfl, (by rw [SX.S_len]; exact sl_le (by omega)), fun Wd hWd => ?_⟩
    have s2 := same_new (o := .lst ((Txt.split (SX.S (lineL k.l ns)) (SX.S [32])).map V.str)) hWd
    have h_W : (upd G1 Wd (.lst ((Txt.split (SX.S (lineL k.l ns)) (SX.S [32])).map V.str))) Wd = some (.lst ((k.l :: (ns).map itx).map sV)) := by
      rw [← line_spl k.no.1 sm, ← split_at 32 (by decide)]
      exact upd_same
    generalize upd G1 Wd (.lst ((Txt.split (SX.S (lineL k.l ns)) (SX.S [32])).map V.str)) = G2 at *
    refine ⟨_, rfl, Wd, _, rfl, SqL.of h_W, fun p3 hp3 => ?_⟩
    rw [List.map_cons, cut_one]
    generalize hG3 : upd _ p3 _ = G3
    obtain ⟨s3, h_p3⟩ := upd_gen hG3 hp3
    have S3 := (s1.trans s2).trans s3
    refine ⟨p3, (ns).map itx, rfl, SqL.of h_p3, fun x hx => ?_, by rw [List.length_map]; omega, fun G4 s4 => ⟨fun e => absurd e (by rw [wholes_back sm]; exact fun z => nomatch z), fun pn ns2 e hpn h_pn => ?_⟩⟩
    · obtain ⟨y, hy, rfl⟩ := List.mem_map.mp hx
      have := itx_len (sm y hy)
      omega
    rw [wholes_back sm] at e
    cases e
    have S4 := S3.trans s4
    refine ⟨_, rfl, rfl, _, rfl, iteC (d := false) (decide_eq_false (fun z => nomatch z)) (iteF ?_)⟩
    obtain ⟨tk, hO⟩ := OT.at_ k
    refine ⟨_, rfl, _, _, rfl, rfl, LN k, _, rfl, iteC (d := false) rfl (iteF ?_)⟩
    refine ⟨_, rfl, _, _, rfl, rfl, hO, _, rfl, iteC (d := true) rfl (iteT ?_)⟩
    refine ⟨_, rfl, pn, _, rfl, .inl (SqL.of h_pn), _, rfl, dO, SX.S k.l, .int (k.n : Int), rfl, rfl, ⟨eO, nO, _, OT.D.at_, OT.D.lit, hO, ⟨_, rfl⟩⟩, rfl, _, rfl, iteC (d := true) (decide_eq_true (by rw [List.length_map, ln])) (iteT ?_)⟩
    refine ⟨_, rfl, _, rfl, pn, _, rfl, .inl ⟨SqL.of h_pn, fun u hu => ⟨(by show 2 ≤ sizeLine; decide), fun t ht => ?_⟩⟩⟩
    generalize hG5 : upd _ u _ = G5 at ht ⊢
    obtain ⟨s5, h_u⟩ := upd_gen hG5 hu
    generalize hG6 : upd _ t _ = G6
    obtain ⟨s6, h_t⟩ := upd_gen hG6 ht
    exact q t u G6 ((S4.trans s5).trans s6) ((S4.trans s5).free ht) h_t (s6 _ _ h_u)
end
end E1

namespace E1
open PySem PySem.Spec PyProof.Rows L2
/-! ### the lines of a net, one after another -/
inductive Pt where
  | form | enters | row | hold | out
def Pt.s : Pt → Str
  | .form => "form"
  | .enters => "enters"
  | .row => "row"
  | .hold => "hold"
  | .out => "out"
def Pt.all : List Pt := [.form, .enters, .row, .hold, .out]
inductive Ln where
  | form (f : FormP) | enter (i : Nat) | row (r : Row) | hold (h : Hold) | out (i : Nat)
def Ln.txt : Ln → List Nat
  | .form f => formLn f
  | .enter i => lineL enterW [(i : Int)]
  | .row r => rowLn r
  | .hold h => holdLn h
  | .out i => lineL outW [(i : Int)]
def Ln.pt : Ln → Pt
  | .form _ => .form
  | .enter _ => .enters
  | .row _ => .row
  | .hold _ => .hold
  | .out _ => .out
def Ln.Ok : Ln → Prop
  | .form f => f.Ok
  | .enter i => Sm [(i : Int)]
  | .row r => Sm r.nums
  | .hold h => Sm h.nums
  | .out i => Sm [(i : Int)]
def NetP.lns (n : NetP) : List Ln := n.fs.map Ln.form ++ (Ln.enter n.en :: (n.rows.map Ln.row ++ (n.holds.map Ln.hold ++ [Ln.out n.out])))
theorem lns_txt (n : NetP) : n.lns.map Ln.txt = n.lines := by
  unfold NetP.lns NetP.lines
  simp only [List.map_append, List.map_map, List.map_cons, List.map_nil]
  rfl
theorem lns_ok {n : NetP} (t : NetT n) {x : Ln} (h : x ∈ n.lns) : x.Ok := by
  unfold NetP.lns at h
  simp only [List.mem_append, List.mem_cons, List.mem_map, List.not_mem_nil, or_false] at h
  rcases h with ⟨f, hf, rfl⟩ | rfl | ⟨r, hr, rfl⟩ | ⟨y, hy, rfl⟩ | rfl
  · exact t.ok.fo f hf
  · exact t.enter
  · exact t.row hr
  · exact t.hold hy
  · exact t.outs
/-- which part may stand behind which -/
def okP : Option Pt → Pt → Bool
  | none, .form => true
  | none, .enters => true
  | some .form, .form => true
  | some .form, .enters => true
  | some .enters, .row => true
  | some .row, .row => true
  | some .enters, .hold => true
  | some .row, .hold => true
  | some .hold, .hold => true
  | some .enters, .out => true
  | some .row, .out => true
  | some .hold, .out => true
  | _, _ => false
def Pt.ahead : Pt → List V
  | .form => [.non, .str "form"]
  | .enters => [.non, .str "form"]
  | .row => [.str "enters", .str "row"]
  | .hold => [.str "enters", .str "row", .str "hold"]
  | .out => [.str "enters", .str "row", .str "hold"]
def lastV : Option Pt → V
  | none => .non
  | some p => .str p.s
theorem ahead_in {o : Option Pt} {p : Pt} (h : okP o p = true) : inV (lastV o) p.ahead = true := by
  revert h
  cases o with
  | none => cases p <;> decide +kernel
  | some q => cases q <;> cases p <;> decide +kernel
theorem lastV_flat (o : Option Pt) : flatV (lastV o) = true := by cases o <;> rfl
theorem ahead_flat (p : Pt) : p.ahead.all flatV = true := by cases p <;> rfl
def OrdL : Option Pt → List Ln → Prop
  | _, [] => True
  | o, x :: r => okP o x.pt = true ∧ OrdL (some x.pt) r
def prevP : Option Pt → List Ln → Nat → Option Pt
  | o, _, 0 => o
  | o, [], _ + 1 => o
  | _, x :: r, i + 1 => prevP (some x.pt) r i
theorem OrdL.get : ∀ {L : List Ln} {o : Option Pt} {i : Nat} {x : Ln}, OrdL o L → L[i]? = some x → okP (prevP o L i) x.pt = true
  | [], _, _, _, _, e => nomatch e
  | y :: r, o, 0, x, h, e => by
    cases e
    exact h.1
  | y :: r, o, i + 1, x, h, e => OrdL.get (L := r) (o := some y.pt) (i := i) h.2 e
theorem prev_succ : ∀ {L : List Ln} {o : Option Pt} {i : Nat} {x : Ln}, L[i]? = some x → prevP o L (i + 1) = some x.pt
  | [], _, _, _, e => nomatch e
  | y :: r, o, 0, x, e => by
    cases e
    cases r <;> rfl
  | y :: r, o, i + 1, x, e => prev_succ (L := r) (o := some y.pt) (i := i) e
theorem ord_forms {L : List Ln} (hL : ∀ o : Option Pt, o = none ∨ o = some .form → OrdL o L) : ∀ (fs : List FormP) (o : Option Pt), o = none ∨ o = some .form → OrdL o (fs.map Ln.form ++ L)
  | [], o, h => hL o h
  | f :: fs, o, h => ⟨by rcases h with rfl | rfl <;> rfl, ord_forms hL fs _ (.inr rfl)⟩
theorem ord_rows {L : List Ln} (hL : ∀ o : Option Pt, o = some .enters ∨ o = some .row → OrdL o L) : ∀ (fs : List Row) (o : Option Pt), o = some .enters ∨ o = some .row → OrdL o (fs.map Ln.row ++ L)
  | [], o, h => hL o h
  | f :: fs, o, h => ⟨by rcases h with rfl | rfl <;> rfl, ord_rows hL fs _ (.inr rfl)⟩
theorem ord_holds {L : List Ln} (hL : ∀ o : Option Pt, o = some .enters ∨ o = some .row ∨ o = some .hold → OrdL o L) : ∀ (fs : List Hold) (o : Option Pt), o = some .enters ∨ o = some .row ∨ o = some .hold → OrdL o (fs.map Ln.hold ++ L)
  | [], o, h => hL o h
  | f :: fs, o, h => ⟨by rcases h with rfl | rfl | rfl <;> rfl, ord_holds hL fs _ (.inr (.inr rfl))⟩
theorem lns_ord (n : NetP) : OrdL none n.lns := by
  refine ord_forms (fun o h => ?_) n.fs none (.inl rfl)
  refine ⟨by rcases h with rfl | rfl <;> rfl, ord_rows (fun o h => ord_holds (fun o h => ?_) n.holds o (by rcases h with h | h <;> simp [h])) n.rows _ (.inl rfl)⟩
  exact ⟨by rcases h with rfl | rfl | rfl <;> rfl, trivial⟩
theorem lns_len (n : NetP) : n.lns.length = n.lines.length := by rw [← lns_txt, List.length_map]
theorem lns_last (n : NetP) : prevP none n.lns n.lns.length = some .out := by
  have h : n.lns = (n.fs.map Ln.form ++ (Ln.enter n.en :: (n.rows.map Ln.row ++ n.holds.map Ln.hold))) ++ [Ln.out n.out] := by
    unfold NetP.lns
    simp only [List.append_assoc, List.cons_append]
  generalize (n.fs.map Ln.form ++ (Ln.enter n.en :: (n.rows.map Ln.row ++ n.holds.map Ln.hold))) = A at h
  rw [h, List.length_append, List.length_singleton]
  exact prev_succ (x := Ln.out n.out) (by rw [List.getElem?_append_right (Nat.le_refl _), Nat.sub_self]; rfl)
def Ln.f? : Ln → Option FormP
  | .form f => some f
  | _ => none
def Ln.e? : Ln → Option (List V)
  | .enter i => some [.int (i : Int)]
  | _ => none
def Ln.r? : Ln → Option (List V)
  | .row r => some r.vs
  | _ => none
def Ln.h? : Ln → Option (List V)
  | .hold h => some h.vs
  | _ => none
def Ln.o? : Ln → Option (List V)
  | .out i => some [.int (i : Int)]
  | _ => none
theorem fm_some {α β γ : Type} {g : β → Option γ} {c : α → β} {k : α → γ} (h : ∀ x, g (c x) = some (k x)) (l : List α) : (l.map c).filterMap g = l.map k := by
  induction l with
  | nil => rfl
  | cons x l ih =>
    rw [List.map_cons, List.filterMap_cons_some (h x), ih]
    rfl
theorem fm_none {α β γ : Type} {g : β → Option γ} {c : α → β} (h : ∀ x, g (c x) = none) (l : List α) : (l.map c).filterMap g = [] := by
  induction l with
  | nil => rfl
  | cons x l ih => rw [List.map_cons, List.filterMap_cons_none (h x), ih]
theorem lns_f (n : NetP) : n.lns.filterMap Ln.f? = n.fs := by
  unfold NetP.lns
  rw [List.filterMap_append, fm_some (g := Ln.f?) (c := Ln.form) (k := id) (fun _ => rfl), List.filterMap_cons_none rfl, List.filterMap_append, fm_none (fun _ => rfl), List.filterMap_append, fm_none (fun _ => rfl), List.map_id]
  exact List.append_nil _
theorem lns_e (n : NetP) : n.lns.filterMap Ln.e? = [[.int (n.en : Int)]] := by
  unfold NetP.lns
  rw [List.filterMap_append, fm_none (fun _ => rfl), List.filterMap_cons_some (by rfl), List.filterMap_append, fm_none (fun _ => rfl), List.filterMap_append, fm_none (fun _ => rfl)]
  rfl
theorem lns_r (n : NetP) : n.lns.filterMap Ln.r? = n.rows.map Row.vs := by
  unfold NetP.lns
  rw [List.filterMap_append, fm_none (fun _ => rfl), List.filterMap_cons_none rfl, List.filterMap_append, fm_some (g := Ln.r?) (c := Ln.row) (k := Row.vs) (fun _ => rfl), List.filterMap_append, fm_none (fun _ => rfl)]
  exact List.append_nil _
theorem lns_h (n : NetP) : n.lns.filterMap Ln.h? = n.holds.map Hold.vs := by
  unfold NetP.lns
  rw [List.filterMap_append, fm_none (fun _ => rfl), List.filterMap_cons_none rfl, List.filterMap_append, fm_none (fun _ => rfl), List.filterMap_append, fm_some (g := Ln.h?) (c := Ln.hold) (k := Hold.vs) (fun _ => rfl)]
  exact List.append_nil _
theorem lns_o (n : NetP) : n.lns.filterMap Ln.o? = [[.int (n.out : Int)]] := by
  unfold NetP.lns
  rw [List.filterMap_append, fm_none (fun _ => rfl), List.filterMap_cons_none rfl, List.filterMap_append, fm_none (fun _ => rfl), List.filterMap_append, fm_none (fun _ => rfl)]
  rfl
/-! ### what the lines tell, in the heap -/
abbrev Tab := Pt → Addr
def Tab.one (A : Tab) : Prop := ∀ p q, A p = A q → p = q
def entK (as : List Addr) : List (Key × V) := List.zipWith (fun p a => (Sum.inr p.s, V.ref a)) Pt.all as
def tabK (A : Tab) : List (Key × V) := Pt.all.map fun p => (Sum.inr p.s, V.ref (A p))
theorem ent_put {as : List Addr} {p : Pt} (hp : Pt.all[as.length]? = some p) (a : Addr) : putK (entK as) (.inr p.s) (.ref a) = entK (as ++ [a]) := by
  match as, hp with
  | [], hp => cases hp; rfl
  | [x], hp => cases hp; rfl
  | [x, y], hp => cases hp; rfl
  | [x, y, z], hp => cases hp; rfl
  | [x, y, z, u], hp => cases hp; rfl
theorem tab_val (A : Tab) (p : Pt) : valV (tabK A) (.inr p.s) = some (.ref (A p)) := by cases p <;> rfl
def tabOf (as : List Addr) : Tab
  | .form => as.getD 0 0
  | .enters => as.getD 1 0
  | .row => as.getD 2 0
  | .hold => as.getD 3 0
  | .out => as.getD 4 0
theorem ent_tab {as : List Addr} (h : as.length = 5) : entK as = tabK (tabOf as) := by
  match as, h with
  | [x, y, z, u, v], _ => rfl
theorem tab_one {as : List Addr} (h : as.length = 5) (nd : as.Nodup) : (tabOf as).one := by
  match as, h, nd with
  | [x, y, z, u, v], _, nd =>
    simp only [List.nodup_cons, List.mem_cons, List.not_mem_nil, or_false, not_or, List.nodup_nil, and_true, not_false_eq_true] at nd
    obtain ⟨⟨n1, n2, n3, n4⟩, ⟨n5, n6, n7⟩, ⟨n8, n9⟩, n10⟩ := nd
    intro p q e
    cases p <;> cases q <;> first | rfl | exact absurd e (by assumption) | exact absurd e.symm (by assumption)
theorem tab_mem {as : List Addr} (h : as.length = 5) (p : Pt) : tabOf as p ∈ as := by
  match as, h with
  | [x, y, z, u, v], _ => cases p <;> simp [tabOf]
structure TdAt (C : Addr) (H : Hp) (D : Addr) (A : Tab) (L : List Ln) : Prop where
  hD : H D = some (.dK (tabK A))
  one : A.one
  f : ∃ vs, H (A .form) = some (.lst vs) ∧ FsAt C H vs (L.filterMap Ln.f?)
  e : TL7 H (A .enters) (L.filterMap Ln.e?)
  r : TL7 H (A .row) (L.filterMap Ln.r?)
  h : TL7 H (A .hold) (L.filterMap Ln.h?)
  o : TL7 H (A .out) (L.filterMap Ln.o?)
theorem TdAt.same {C : Addr} {H H' : Hp} {D : Addr} {A : Tab} {L : List Ln} (t : TdAt C H D A L) (s : Same H H') : TdAt C H' D A L := by
  obtain ⟨hD, one, ⟨vs, e1, e2⟩, e, r, h, o⟩ := t
  exact ⟨s _ _ hD, one, ⟨vs, s _ _ e1, e2.same s⟩, e.same s, r.same s, h.same s, o.same s⟩
theorem FsAt.but {C a : Addr} {H H' : Hp} {vs ys : List V} {fs : List FormP} (h : FsAt C H vs fs) (s : SameBut a H H') (ha : H a = some (.lst ys)) : FsAt C H' vs fs := by
  induction h with
  | nil => exact .nil
  | cons e _ ih =>
    obtain ⟨d, ho⟩ := e.ob
    exact .cons ⟨⟨d, s _ _ (fun z => by rw [z, ha] at ho; cases ho) ho⟩, e.wo, e.p0, e.p1⟩ ih
/-- the thing that a line tells -/
def ThgAt (C : Addr) (H : Hp) (u : Addr) : Ln → Prop
  | .form f => FAt C H u f
  | .enter i => H u = some (.tup [.int (i : Int)])
  | .row r => H u = some (.tup r.vs)
  | .hold h => H u = some (.tup h.vs)
  | .out i => H u = some (.tup [.int (i : Int)])
theorem ThgAt.same {C : Addr} {H H' : Hp} {u : Addr} {x : Ln} (t : ThgAt C H u x) (s : Same H H') : ThgAt C H' u x := by
  cases x with
  | form f => exact FormAt.same t s
  | enter i => exact s _ _ t
  | row r => exact s _ _ t
  | hold h => exact s _ _ t
  | out i => exact s _ _ t
theorem TdAt.lst {C : Addr} {H : Hp} {D : Addr} {A : Tab} {L : List Ln} (t : TdAt C H D A L) (p : Pt) : ∃ vs, H (A p) = some (.lst vs) ∧ vs.length ≤ L.length := by
  have fl : ∀ {β : Type} (g : Ln → Option β), (L.filterMap g).length ≤ L.length := fun g => List.length_filterMap_le g L
  cases p with
  | form =>
    obtain ⟨vs, e, h⟩ := t.f
    exact ⟨vs, e, by rw [h.len]; exact fl _⟩
  | enters =>
    obtain ⟨vs, e, h⟩ := t.e
    exact ⟨vs, e, by rw [h.len]; exact fl _⟩
  | row =>
    obtain ⟨vs, e, h⟩ := t.r
    exact ⟨vs, e, by rw [h.len]; exact fl _⟩
  | hold =>
    obtain ⟨vs, e, h⟩ := t.h
    exact ⟨vs, e, by rw [h.len]; exact fl _⟩
  | out =>
    obtain ⟨vs, e, h⟩ := t.o
    exact ⟨vs, e, by rw [h.len]; exact fl _⟩
theorem fm_snoc {β : Type} (g : Ln → Option β) (L : List Ln) (x : Ln) : (L ++ [x]).filterMap g = L.filterMap g ++ (g x).toList := by
  rw [List.filterMap_append]
  congr 1
theorem fm_same {β : Type} {g : Ln → Option β} {L : List Ln} {x : Ln} (h : g x = none) : (L ++ [x]).filterMap g = L.filterMap g := by
  rw [fm_snoc, h]
  exact List.append_nil _
theorem fm_more {β : Type} {g : Ln → Option β} {L : List Ln} {x : Ln} {y : β} (h : g x = some y) : (L ++ [x]).filterMap g = L.filterMap g ++ [y] := by
  rw [fm_snoc, h]
  rfl
theorem TL7.put {H H' : Hp} {a u : Addr} {vs xs : List V} {xss : List (List V)} (t : TL7 H a xss) (s : SameBut a H H') (ha : H a = some (.lst vs)) (e : H' a = some (.lst (vs ++ [.ref u]))) (hu : H u = some (.tup xs)) : TL7 H' a (xss ++ [xs]) := by
  obtain ⟨ws, e1, e2⟩ := t
  rw [ha] at e1
  cases e1
  have e3 : H' u = some (.tup xs) := s _ _ (ne_of hu ha fun z => nomatch z) hu
  exact ⟨_, e, (e2.but s ha).app (.cons e3 .nil)⟩
theorem TdAt.put {C : Addr} {H H' : Hp} {D u : Addr} {A : Tab} {L : List Ln} {x : Ln} {vs : List V} (t : TdAt C H D A L) (g : ThgAt C H u x) (ha : H (A x.pt) = some (.lst vs)) (s : SameBut (A x.pt) H H') (e : H' (A x.pt) = some (.lst (vs ++ [.ref u]))) : TdAt C H' D A (L ++ [x]) := by
  have nq : ∀ p, p ≠ x.pt → A p ≠ A x.pt := fun p h z => h (t.one _ _ z)
  have hD : H' D = some (.dK (tabK A)) := s _ _ (ne_of t.hD ha fun z => nomatch z) t.hD
  obtain ⟨ws, f1, f2⟩ := t.f
  have kf : ∀ h : Pt.form ≠ x.pt, ∃ vs, H' (A .form) = some (.lst vs) ∧ FsAt C H' vs (L.filterMap Ln.f?) := fun h => ⟨ws, s _ _ (nq _ h) f1, f2.but s ha⟩
  have ke : ∀ h : Pt.enters ≠ x.pt, TL7 H' (A .enters) (L.filterMap Ln.e?) := fun h => t.e.but s ha (nq _ h)
  have kr : ∀ h : Pt.row ≠ x.pt, TL7 H' (A .row) (L.filterMap Ln.r?) := fun h => t.r.but s ha (nq _ h)
  have kh : ∀ h : Pt.hold ≠ x.pt, TL7 H' (A .hold) (L.filterMap Ln.h?) := fun h => t.h.but s ha (nq _ h)
  have ko : ∀ h : Pt.out ≠ x.pt, TL7 H' (A .out) (L.filterMap Ln.o?) := fun h => t.o.but s ha (nq _ h)
  cases x with
  | form f =>
    refine ⟨hD, t.one, ?_, ?_, ?_, ?_, ?_⟩
    · rw [fm_more (g := Ln.f?) rfl]
      replace f1 := (show H (A .form) = some (.lst vs) from ha).symm.trans f1
      cases f1
      have g' : FAt C H u f := g
      obtain ⟨d, ho⟩ := g'.ob
      exact ⟨_, e, (f2.but s ha).app (.cons ⟨⟨d, s _ _ (ne_of ho ha fun z => nomatch z) ho⟩, g'.wo, g'.p0, g'.p1⟩ .nil)⟩
    · rw [fm_same rfl]; exact ke (fun z => nomatch z)
    · rw [fm_same rfl]; exact kr (fun z => nomatch z)
    · rw [fm_same rfl]; exact kh (fun z => nomatch z)
    · rw [fm_same rfl]; exact ko (fun z => nomatch z)
  | enter i =>
    refine ⟨hD, t.one, ?_, ?_, ?_, ?_, ?_⟩
    · rw [fm_same rfl]; exact kf (fun z => nomatch z)
    · rw [fm_more (g := Ln.e?) rfl]; exact t.e.put s ha e g
    · rw [fm_same rfl]; exact kr (fun z => nomatch z)
    · rw [fm_same rfl]; exact kh (fun z => nomatch z)
    · rw [fm_same rfl]; exact ko (fun z => nomatch z)
  | row r =>
    refine ⟨hD, t.one, ?_, ?_, ?_, ?_, ?_⟩
    · rw [fm_same rfl]; exact kf (fun z => nomatch z)
    · rw [fm_same rfl]; exact ke (fun z => nomatch z)
    · rw [fm_more (g := Ln.r?) rfl]; exact t.r.put s ha e g
    · rw [fm_same rfl]; exact kh (fun z => nomatch z)
    · rw [fm_same rfl]; exact ko (fun z => nomatch z)
  | hold h =>
    refine ⟨hD, t.one, ?_, ?_, ?_, ?_, ?_⟩
    · rw [fm_same rfl]; exact kf (fun z => nomatch z)
    · rw [fm_same rfl]; exact ke (fun z => nomatch z)
    · rw [fm_same rfl]; exact kr (fun z => nomatch z)
    · rw [fm_more (g := Ln.h?) rfl]; exact t.h.put s ha e g
    · rw [fm_same rfl]; exact ko (fun z => nomatch z)
  | out i =>
    refine ⟨hD, t.one, ?_, ?_, ?_, ?_, ?_⟩
    · rw [fm_same rfl]; exact kf (fun z => nomatch z)
    · rw [fm_same rfl]; exact ke (fun z => nomatch z)
    · rw [fm_same rfl]; exact kr (fun z => nomatch z)
    · rw [fm_same rfl]; exact kh (fun z => nomatch z)
    · rw [fm_more (g := Ln.o?) rfl]; exact t.o.put s ha e g
theorem tdat_nil {C : Addr} {H : Hp} {D : Addr} {as : List Addr} (hD : H D = some (.dK (entK as))) (h5 : as.length = 5) (nd : as.Nodup) (ha : ∀ a ∈ as, H a = some (.lst [])) : TdAt C H D (tabOf as) [] := by
  have h : ∀ p, H (tabOf as p) = some (.lst []) := fun p => ha _ (tab_mem h5 p)
  exact ⟨by rw [hD, ent_tab h5], tab_one h5 nd, ⟨[], h _, .nil⟩, ⟨[], h _, .nil⟩, ⟨[], h _, .nil⟩, ⟨[], h _, .nil⟩, ⟨[], h _, .nil⟩⟩
end E1

namespace E1
open PySem PySem.Spec PyProof.Rows L2

/-- what a good line tells, by the line -/
theorem part_ok {C : Addr} {H : Hp} {Q : VK} {E : XK} {x : Ln} (ok : x.Ok) (q : ∀ t u H', Same H H' → H t = none → H' t = some (.tup [.str x.pt.s, .ref u]) → ThgAt C H' u x → Q (.ref t) H') : spPartOf C [sV x.txt] H Q E := by
  cases x with
  | form f => exact ⟨_, rfl, .inl ⟨f, ok, rfl, fun t p H' s e h g => q t p H' s e h g⟩⟩
  | enter i => exact ⟨_, rfl, .inr (.inr ⟨.enter, _, ok, rfl, rfl, fun t u H' s e h g => q t u H' s e h g⟩)⟩
  | row r => exact ⟨_, rfl, .inr (.inl ⟨r, ok, rfl, fun t u H' s e h g => q t u H' s e h g⟩)⟩
  | hold y => exact ⟨_, rfl, .inr (.inr ⟨.hold, _, ok, rfl, rfl, fun t u H' s e h g => q t u H' s e h g⟩)⟩
  | out i => exact ⟨_, rfl, .inr (.inr ⟨.out, _, ok, rfl, rfl, fun t u H' s e h g => q t u H' s e h g⟩)⟩
theorem prev_zero (o : Option Pt) (L : List Ln) : prevP o L 0 = o := by cases L <;> rfl
structure Prts (w : World) (K : PySem.W.Frag) (mg : Str → Option Value) (dP : Addr) (es : Array DictEntry) (n : Nat) : Prop where
  gm : mg "PARTS_AHEAD" = some (.ref dP)
  KK : KKeys K w dP es n (Pt.all.map Pt.s)
  at_ : ∀ p : Pt, ∃ t, PySem.W.nsIn K dP p.s = some (some (.ref t)) ∧ ∀ H, SqT K H t p.ahead
def spParts (C : Addr) : Sp := fun vs H Q _ => ∃ n : NetP, vs = [sV n.text] ∧ NetT n ∧ ∀ D A H', Same H H' → H D = none → TdAt C H' D A n.lns → Q (.ref D) H'
def spReadNet (C CN : Addr) : Sp := fun vs H Q _ => ∃ n : NetP, vs = [sV n.text] ∧ NetT n ∧ ∀ p H', Same H H' → H p = none → NetAt C CN H' p n → Q (.ref p) H'
section
variable {P : Program} {w : World} {K : PySem.W.Frag} {mg : Str → Option Value} {base : Heap}
theorem sc_parts_of_text : FnScope ["text", "told", "last", "lines", "at", "line", "found", "part"] ["text"] (defScope s_parts_of_text) := ⟨rfl, rfl, rfl, by decide +kernel, rfl, by decide +kernel, by decide +kernel⟩
theorem ok_parts_of_text {f : Addr} {fd : FuncData} {C dP : Addr} {eP : Array DictEntry} {nP : Nat} (PA : Prts w K mg dP eP nP) (F : Fun K "parts_of_text" "parts_of_text" s_parts_of_text f fd) (z : Zs mg) (c_part_of_line : Cal P w K mg base 6 "part_of_line" ["line"] (spPartOf C)) : FnOk P w K mg base CX0 7 f fd ["text"] (spParts C) := by
  refine F.ok sc_parts_of_text (fun vs H Q E h => ?_) (fun cdv A outer s H vs Q E hr h => ?_)
  · obtain ⟨n, rfl, _⟩ := h
    rfl
  · obtain ⟨n, rfl, t, q⟩ := h
    refine ⟨_, (pss_cons (ps_setDc (j := 1) (own := [("part", 7)]) (g := gName 7) (tt := tYes) (tk := tVar 7) (tv := tLst tNil) (by rfl) sc_parts_of_text.nd rfl rfl (dsw_true rfl rfl rfl (by decide +kernel)) (pi_keysK (pe_glob (v := .ref dP) (by rfl) PA.gm rfl)) (blkOk_by (own := [("part", 7)]) (N := ["text", "told", "last", "lines", "at", "line", "found", "part"]) (sc := defScope s_parts_of_text) (by decide +kernel)) (fun _ _ _ _ _ => by exact (pg_name (i := 7) sc_parts_of_text.nd rfl (.inl rfl))) (fun _ _ _ _ _ => by exact pts_nil) (fun _ _ _ _ _ => by exact (pv 7)) (fun _ _ _ _ _ => by exact (pe_lst pa_nil)))
      (pss_cons (ps_set (i := 2) sc_parts_of_text.nd rfl (.inl rfl) pe_non)
      (pss_cons (ps_set (i := 3) sc_parts_of_text.nd rfl (.inl rfl) (pe_split (pv 0) pe_str))
      (pss_cons (ps_for PassesOwn.never rfl (pi_enum (by rfl) z.enumerate (pa_cons (pv 3) pa_nil)) (pg_tup (by rfl) (pgs_cons (pg_name (i := 4) sc_parts_of_text.nd rfl (.inl rfl)) (pgs_cons (pg_name (i := 5) sc_parts_of_text.nd rfl (.inl rfl)) pgs_nil))) (pss_cons (ps_set (i := 6) sc_parts_of_text.nd rfl (.inl rfl) (pe_cal c_part_of_line hr (pa_cons (pv 5) pa_nil)))
      (pss_cons (ps_if (PW.pt (pw_or (pt_cmpR op_isN (pv 6) pe_non (nomark _)) (pw_or1 (pt_cmpR op_notIn_seq (pv 2) (pe_ix ix_kdict (pe_glob (v := .ref dP) (by rfl) PA.gm rfl) (pe_ix ix_tup (pv 6) pe_int (fun _ _ => rfl)) (fun _ _ => rfl)) (by rfl))))) (pss_one ps_never) pss_nil)
      (pss_cons (ps_set (i := 2) sc_parts_of_text.nd rfl (.inl rfl) (pe_ix ix_tup (pv 6) pe_int (fun _ _ => rfl)))
      (pss_one (ps_expr (pe_bm PySem.F.plainAttrs_list PySem.F.slot_list_append PySem.F.type_list_append mt_append (pe_dget (Nat.lt_of_le_of_lt (Nat.add_le_add_left (by decide) _) hr.units) (pv 1) (pv 2) (fun _ _ => rfl)) (pa_cons (pe_ix ix_tup (pv 6) pe_int (fun _ _ => rfl)) pa_nil))))))))
      (pss_cons (ps_if (pt_cmpR op_ne (pv 2) pe_str (nomark _)) (pss_one ps_never) pss_nil)
      (pss_one (ps_ret (pv 1)))))))), ?_⟩
    refine ⟨dP, eP, nP, _, rfl, PA.KK, fun D hD => ?_⟩
    refine dc_kk (fun i G => Same H G ∧ ∃ as : List Addr, as.length = i ∧ as.Nodup ∧ G D = some (.dK (entK as)) ∧ ∀ a ∈ as, G a = some (.lst []) ∧ H a = none) ⟨same_new hD, [], rfl, .nil, upd_same, fun a h => nomatch h⟩ (fun i zz G hz hP => ?_) (fun G hP => ?_)
    · obtain ⟨s1, as, la, nd, hd, ha⟩ := hP
      rw [List.getElem?_map] at hz
      obtain ⟨pp, hp, rfl⟩ := Option.map_eq_some_iff.mp hz
      refine ⟨rfl, _, rfl, (by show 0 ≤ sizeLine; decide), fun a hA => ?_⟩
      generalize hG : upd _ a _ = G1
      obtain ⟨s2, h_a⟩ := upd_gen hG hA
      have il := (List.getElem?_eq_some_iff.mp hp).1
      refine ⟨_, .inr pp.s, rfl, s2 _ _ hd, Nat.lt_of_le_of_lt (show (entK as).length ≤ 5 by unfold entK; rw [List.length_zipWith]; exact Nat.min_le_left _ _) (by decide), ?_⟩
      subst la
      rw [ent_put hp]
      generalize hG2 : upd _ D _ = G2
      obtain ⟨b2, h_D⟩ := upd_but hG2
      have hD1 := s2 _ _ hd
      refine ⟨same_but (s1.trans s2) b2 hD, as ++ [a], by rw [List.length_append]; rfl, ?_, h_D, fun b hb => ?_⟩
      · rw [List.nodup_append]
        refine ⟨nd, by simp, fun x hx y hy e => ?_⟩
        rw [List.mem_singleton.mp hy] at e
        rw [e] at hx
        rw [(ha _ hx).1] at hA
        cases hA
      · have hb1 : G1 b = some (.lst []) ∧ H b = none := by
          rcases List.mem_append.mp hb with hb | hb
          · exact ⟨s2 _ _ (ha _ hb).1, (ha _ hb).2⟩
          · rw [List.mem_singleton.mp hb]
            exact ⟨h_a, s1.free hA⟩
        exact ⟨b2 _ _ (ne_of hb1.1 hD1 fun z => nomatch z) hb1.1, hb1.2⟩
    obtain ⟨s1, as, la, nd, hd, ha⟩ := hP
    have T0 : TdAt C G D (tabOf as) [] := tdat_nil hd la nd fun a h => (ha a h).1
    have Z0 : ∀ p, H (tabOf as p) = none := fun p => (ha _ (tab_mem la p)).2
    generalize tabOf as = tb at T0 Z0
    clear ha hd nd la as
    have tl := t.text_len
    refine ⟨_, rfl, ⟨_, rfl⟩, _, _, rfl, rfl, rfl, (by rw [SX.S_len]; exact Nat.le_trans (show n.text.length + 2 ≤ 110002 by omega) (by decide)), fun ls hls => ?_⟩
    have s2 := same_new (o := .lst ((Txt.split (SX.S n.text) (SX.S [10])).map V.str)) hls
    have h_l : (upd G ls (.lst ((Txt.split (SX.S n.text) (SX.S [10])).map V.str))) ls = some (.lst (n.lines.map sV)) := by
      rw [← text_spl t, ← split_at 10 (by decide)]
      exact upd_same
    have nl : ∀ p, tb p ≠ ls := fun p e => by
      obtain ⟨vs, e1, _⟩ := T0.lst p
      rw [e, hls] at e1
      cases e1
    rw [show Str.ofString "\n" = SX.S [10] from rfl]
    generalize upd G ls (.lst ((Txt.split (SX.S n.text) (SX.S [10])).map V.str)) = G1 at s2 h_l ⊢
    replace T0 := T0.same s2
    replace s1 := s1.trans s2
    refine ⟨_, rfl, ls, _, rfl, SqL.of h_l, for_it (walk_enum (K := K) (a := ls) (xs := n.lines.map sV)) (fun i σ G => ∃ y4 y5 y6 : Option V, σ = [some (sV n.text), some (.ref D), some (lastV (prevP none n.lns i)), some (.ref ls), y4, y5, y6, none] ∧ Same H G ∧ G ls = some (.lst (n.lines.map sV)) ∧ TdAt C G D tb (n.lns.take i)) ⟨none, none, none, by rw [prev_zero]; rfl, s1, h_l, T0⟩ (fun i σ G _ hP => ?_) (fun i v σ G G' hi hP hY => ?_) (fun σ G hP => ?_)⟩
    · obtain ⟨y4, y5, y6, rfl, _, hl, _⟩ := hP
      exact SqL.of hl
    · obtain ⟨y4, y5, y6, rfl, s3, hl, td⟩ := hP
      obtain ⟨Tp, u, v', rfl, nT, rfl, e1, e2⟩ := hY
      cases e1
      replace e2 : (n.lines.map sV)[i]? = some v' := e2
      rw [← lns_txt, List.map_map, List.getElem?_map] at e2
      obtain ⟨x, ex, rfl⟩ := Option.map_eq_some_iff.mp e2
      have sn := same_new (o := .tup [.int (i : Nat), sV x.txt]) nT
      refine ⟨Tp, _, rfl, SqT.of upd_same, rfl, _, _, rfl, _, _, rfl, rfl, ?_⟩
      refine ⟨_, rfl, ?_⟩
      unfold tNil
      dsimp only [List.cons_append, List.nil_append, Function.comp]
      refine part_ok (lns_ok t (List.mem_of_getElem? ex)) fun f1 u G2 s4 _ h_f thg => ?_
      have S4 := (s3.trans sn).trans s4
      have hl2 := s4 _ _ (sn _ _ hl)
      have td2 := (td.same sn).same s4
      have okx := (lns_ord n).get ex
      obtain ⟨pa, eA, hA⟩ := PA.at_ x.pt
      refine ⟨_, rfl, rfl, _, rfl, iteC (d := false) (decide_eq_false (fun z => nomatch z)) (iteF ?_)⟩
      refine ⟨_, rfl, _, rfl, f1, _, 0, _, rfl, rfl, SqT.of h_f, a0, dP, x.pt.s, .ref pa, rfl, rfl, ⟨eP, nP, _, PA.KK.D.at_, PA.KK.D.lit, eA, rfl⟩, pa, _, rfl, .inr (hA _), lastV_flat _, ahead_flat _, _, rfl, ?_⟩
      refine iteC (d := false) (by rw [ahead_in okx]; rfl) (iteF ?_)
      refine ⟨_, rfl, f1, _, 0, _, rfl, rfl, SqT.of h_f, a0, ?_⟩
      obtain ⟨vs, hvs, lvs⟩ := td2.lst x.pt
      have lt : (n.lns.take i).length ≤ 90 := by
        rw [List.length_take, lns_len, lines_len]
        have := t.ok.f2
        have := t.ok.r2
        have := t.ok.h2
        omega
      refine ⟨_, rfl, _, rfl, D, .ref (tb x.pt), rfl, .inl ⟨_, .inr x.pt.s, .inl td2.hD, rfl, (tab_val tb x.pt).symm⟩, .inl ⟨rfl, _, SqL.of hvs⟩, _, rfl, f1, _, 1, _, rfl, rfl, SqT.of h_f, a1, tb x.pt, _, _, rfl, rfl, hvs, sl_lt (by omega), ?_⟩
      generalize hG5 : upd _ (tb x.pt) _ = G5
      obtain ⟨b5, h5⟩ := upd_but hG5
      refine ⟨_, _, _, by rw [prev_succ ex]; rfl, same_but S4 b5 (Z0 x.pt), b5 _ _ (nl x.pt).symm hl2, ?_⟩
      rw [List.take_succ, ex]
      exact td2.put thg hvs b5 h5
    · obtain ⟨y4, y5, y6, rfl, s3, hl, td⟩ := hP
      rw [List.length_map, ← lns_len, List.take_length] at td
      rw [List.length_map, ← lns_len, lns_last]
      refine ⟨_, rfl, rfl, _, rfl, iteC (d := false) (by decide +kernel) (iteF ⟨_, rfl, ?_⟩)⟩
      exact q D tb G s3 hD td
end
end E1

namespace E1
open PySem PySem.Spec PyProof.Rows L2
theorem make_same {G : Hp} {x dx C : Addr} (hx : G x = none) (hdx : G dx = none) (ne : dx ≠ x) : Same G (upd (upd G dx (.own x)) x (.ins C dx [])) :=
  (same_new hdx).trans (same_new (by rw [upd_ne ne.symm]; exact hx))
section
variable {P : Program} {w : World} {K : PySem.W.Frag} {mg : Str → Option Value} {base : Heap}
theorem sc_read_net : FnScope ["text", "told"] ["text"] (defScope s_read_net) := ⟨rfl, rfl, rfl, by decide +kernel, rfl, by decide +kernel, by decide +kernel⟩
theorem ok_read_net {f : Addr} {fd : FuncData} {C CN : Addr} (F : Fun K "read_net" "read_net" s_read_net f fd) (c_check_text : Cal P w K mg base 1 "check_text" ["thing"] spCkText) (c_parts_of_text : Cal P w K mg base 7 "parts_of_text" ["text"] (spParts C)) (c_Net_5 : CalC P w K mg base 6 "Net" CN ["self", "forms", "enters", "rows", "holds", "out"] [] (spNetInit C CN)) : FnOk P w K mg base CX0 8 f fd ["text"] (spReadNet C CN) := by
  refine F.ok sc_read_net (fun vs H Q E h => ?_) (fun cdv A outer s H vs Q E hr h => ?_)
  · obtain ⟨n, rfl, _⟩ := h
    rfl
  · obtain ⟨n, rfl, t, q⟩ := h
    refine ⟨_, (pss_cons (ps_expr (pe_cal c_check_text hr (pa_cons (pv 0) pa_nil)))
      (pss_cons (ps_set (i := 1) sc_read_net.nd rfl (.inl rfl) (pe_cal c_parts_of_text hr (pa_cons (pv 0) pa_nil)))
      (pss_one (ps_ret (pe_calc c_Net_5 hr (pa_cons (pe_dget (Nat.lt_of_le_of_lt (Nat.add_le_add_left (by decide) _) hr.units) (pv 1) pe_str (fun _ _ => rfl)) (pa_cons (pe_ix ix_tup (pe_ix ix_list (pe_dget (Nat.lt_of_le_of_lt (Nat.add_le_add_left (by decide) _) hr.units) (pv 1) pe_str (fun _ _ => rfl)) pe_int (fun _ _ => rfl)) pe_int (fun _ _ => rfl)) (pa_cons (pe_dget (Nat.lt_of_le_of_lt (Nat.add_le_add_left (by decide) _) hr.units) (pv 1) pe_str (fun _ _ => rfl)) (pa_cons (pe_dget (Nat.lt_of_le_of_lt (Nat.add_le_add_left (by decide) _) hr.units) (pv 1) pe_str (fun _ _ => rfl)) (pa_cons (pe_ix ix_tup (pe_ix ix_list (pe_dget (Nat.lt_of_le_of_lt (Nat.add_le_add_left (by decide) _) hr.units) (pv 1) pe_str (fun _ _ => rfl)) pe_int (fun _ _ => rfl)) pe_int (fun _ _ => rfl)) pa_nil)))))))))), ?_⟩
    refine ⟨_, rfl, _, rfl, _, rfl, n, rfl, t, fun D A G s1 _ td => ?_⟩
    obtain ⟨fv, f1, f2⟩ := td.f
    obtain ⟨ev, e1, e2⟩ := td.e
    obtain ⟨rv, r1, r2⟩ := td.r
    obtain ⟨hv, h1, h2⟩ := td.h
    obtain ⟨ov, o1, o2⟩ := td.o
    rw [lns_f] at f2
    rw [lns_e] at e2
    rw [lns_r] at r2
    rw [lns_h] at h2
    rw [lns_o] at o2
    obtain ⟨ue, rfl, hue⟩ : ∃ u, ev = [.ref u] ∧ G u = some (.tup [.int (n.en : Int)]) := by
      cases e2 with
      | cons e r =>
        cases r
        exact ⟨_, rfl, e⟩
    obtain ⟨uo, rfl, huo⟩ : ∃ u, ov = [.ref u] ∧ G u = some (.tup [.int (n.out : Int)]) := by
      cases o2 with
      | cons e r =>
        cases r
        exact ⟨_, rfl, e⟩
    refine ⟨_, rfl, D, .ref (A .form), rfl, .inl ⟨_, .inr Pt.form.s, .inl td.hD, rfl, (tab_val A .form).symm⟩, _, rfl, D, .ref (A .enters), rfl, .inl ⟨_, .inr Pt.enters.s, .inl td.hD, rfl, (tab_val A .enters).symm⟩, A .enters, _, 0, .ref ue, rfl, rfl, SqL.of e1, a0, ue, _, 0, _, rfl, rfl, SqT.of hue, a0, _, rfl, D, .ref (A .row), rfl, .inl ⟨_, .inr Pt.row.s, .inl td.hD, rfl, (tab_val A .row).symm⟩, _, rfl, D, .ref (A .hold), rfl, .inl ⟨_, .inr Pt.hold.s, .inl td.hD, rfl, (tab_val A .hold).symm⟩, _, rfl, D, .ref (A .out), rfl, .inl ⟨_, .inr Pt.out.s, .inl td.hD, rfl, (tab_val A .out).symm⟩, A .out, _, 0, .ref uo, rfl, rfl, SqL.of o1, a0, uo, _, 0, _, rfl, rfl, SqT.of huo, a0, fun p dx hx0 hdx ne => ?_⟩
    have sM := make_same (C := CN) hx0 hdx ne
    refine ⟨p, dx, A .form, A .row, A .hold, n, fv, rv, hv, rfl, upd_same, sM _ _ f1, f2.same sM, sM _ _ r1, r2.same sM, sM _ _ h1, h2.same sM, t.ok, fun G6 hN fr1 => ⟨rfl, ?_⟩⟩
    have s7 : Same G G6 := fun b o e => fr1 b o (ne_of_none e hx0) (sM _ _ e)
    exact q p G6 (s1.trans s7) (s1.free hx0) hN.at
end
end E1

namespace E1
open PySem PySem.Spec PyProof.Rows L2

def spLMade (C CN : Addr) : Sp := fun vs H Q _ => ∃ (hp : Addr) (n : NetP), vs = [.ref hp] ∧ PartsAt H hp n ∧ NetOk n ∧ ∀ p H', Same H H' → NetAt C CN H' p n → Q (.ref p) H'
theorem fpt_at {fs : List FormP} {k : Nat} {f : FormP} (h : fs[k]? = some f) : fpt fs k = f.pt := by
  unfold fpt
  rw [List.getD_eq_getElem?_getD, List.getElem?_map, h]
  rfl
theorem fat_one {C : Addr} {H : Hp} {p : Addr} {f : FormP} (h : FAt C H p f) : FsAt C H [.ref p] [f] := .cons h .nil
section
variable {P : Program} {w : World} {K : PySem.W.Frag} {mg : Str → Option Value} {base : Heap}
theorem sc__law_made : FnScope ["_law_house", "_law_forms", "_law_enters", "_law_rows", "_law_holds", "_law_out", "_law_one"] ["_law_house"] (defScope s__law_made) := ⟨rfl, rfl, rfl, by decide +kernel, rfl, by decide +kernel, by decide +kernel⟩
theorem ok__law_made {f : Addr} {fd : FuncData} {C CN : Addr} (F : Fun K "_law_made" "_law_made" s__law_made f fd) (z : Zs mg) (c_Form_4 : CalC P w K mg base 3 "Form" C ["self", "width", "point", "manner", "ends"] [] (spInit C)) (c_Net_5 : CalC P w K mg base 6 "Net" CN ["self", "forms", "enters", "rows", "holds", "out"] [] (spNetInit C CN)) : FnOk P w K mg base CX0 8 f fd ["_law_house"] (spLMade C CN) := by
  refine F.ok sc__law_made (fun vs H Q E h => ?_) (fun cdv A outer s H vs Q E hr h => ?_)
  · obtain ⟨hp, n, rfl, _⟩ := h
    rfl
  · obtain ⟨hp, n, rfl, ⟨fa, ra, ha, hhp, ⟨fv, hfa, tf⟩, ⟨rv, hra, tr⟩, ⟨hv, hha, th⟩⟩, ok, q⟩ := h
    refine ⟨_, (pss_cons (ps_asg (pv 0) (pg_tup (by rfl) (pgs_cons (pg_name (i := 1) sc__law_made.nd rfl (.inl rfl)) (pgs_cons (pg_name (i := 2) sc__law_made.nd rfl (.inl rfl)) (pgs_cons (pg_name (i := 3) sc__law_made.nd rfl (.inl rfl)) (pgs_cons (pg_name (i := 4) sc__law_made.nd rfl (.inl rfl)) (pgs_cons (pg_name (i := 5) sc__law_made.nd rfl (.inl rfl)) pgs_nil)))))))
      (pss_one (ps_ret (pe_calc c_Net_5 hr (pa_cons (pe_lc (own := [("_law_one", 6)]) (g := gName 6) (tt := tYes) (te := tMake C (spInit C) [] E0 (tCons (tOp (rIxT K) (tVar 6) (tC (.int 0))) (tCons (tOp (rIxT K) (tVar 6) (tC (.int 1))) (tCons (tOp (rIxT K) (tVar 6) (tC (.int 2))) (tCons (tOp (rIxT K) (tVar 6) (tC (.int 3))) tNil))))) (by rfl) sc__law_made.nd (pi_list (pv 1)) (blkOk_by (own := [("_law_one", 6)]) (N := ["_law_house", "_law_forms", "_law_enters", "_law_rows", "_law_holds", "_law_out", "_law_one"]) (sc := defScope s__law_made) (by decide +kernel)) (fun _ _ _ _ _ => by exact (pg_name (i := 6) sc__law_made.nd rfl (.inl rfl))) (fun _ _ _ _ _ => by exact pts_nil) (fun _ _ _ _ _ => by exact (pe_calc c_Form_4 hr (pa_cons (pe_ix ix_tup (pv 6) pe_int (fun _ _ => rfl)) (pa_cons (pe_ix ix_tup (pv 6) pe_int (fun _ _ => rfl)) (pa_cons (pe_ix ix_tup (pv 6) pe_int (fun _ _ => rfl)) (pa_cons (pe_ix ix_tup (pv 6) pe_int (fun _ _ => rfl)) pa_nil))))))) (pa_cons (pv 2) (pa_cons (pe_callTy call_list_of (by rfl) z.list (by decide +kernel) (pa_cons (pv 3) pa_nil)) (pa_cons (pe_callTy call_list_of (by rfl) z.list (by decide +kernel) (pa_cons (pv 4) pa_nil)) (pa_cons (pv 5) pa_nil))))))))), ?_⟩
    have lf := tf.len
    rw [List.length_map] at lf
    have f12 := ok.f2
    refine ⟨_, rfl, hp, _, rfl, SqT.of hhp, rfl, _, _, rfl, _, _, rfl, _, _, rfl, _, _, rfl, _, _, rfl, rfl, ?_⟩
    refine ⟨_, rfl, fa, rfl, ⟨_, SqL.of hfa⟩, fun D hD => ?_⟩
    refine lc_it (walk_list (K := K) (a := fa) (xs := fv)) (fun i G => Same H G ∧ ∃ ws, G D = some (.lst ws) ∧ FsAt C G ws (n.fs.take i)) ⟨same_new hD, [], upd_same, .nil⟩ (fun i G _ hP => SqL.of (hP.1 _ _ hfa)) (fun i x G G' hi hP hY => ?_) (fun G hP => ?_)
    · obtain ⟨s1, ws, hd, fw⟩ := hP
      obtain ⟨rfl, hx⟩ := hY
      obtain ⟨p, xs, rfl, exs, hp'⟩ := tf.get hx
      rw [List.getElem?_map] at exs
      obtain ⟨f, ef, rfl⟩ := Option.map_eq_some_iff.mp exs
      have hp2 := s1 _ _ hp'
      have fo := ok.fo f (List.mem_of_getElem? ef)
      have lw := fw.len
      rw [List.length_take] at lw
      refine ⟨rfl, _, rfl, p, _, 0, wV f.w, rfl, rfl, SqT.of hp2, a0, _, rfl, p, _, 1, .int f.pt, rfl, rfl, SqT.of hp2, a1, _, rfl, p, _, 2, .str f.m.str, rfl, rfl, SqT.of hp2, a2, _, rfl, p, _, 3, .str (endS f.st), rfl, rfl, SqT.of hp2, atI_nat (j := 3) rfl, fun x dx hx0 hdx ne => ?_⟩
      have sM := make_same (C := C) hx0 hdx ne
      refine ⟨x, dx, f.w, f.pt, f.m, f.st, rfl, fo.wo, fo.p0, fo.p1, upd_same, fun H2 hF fr1 fr2 => ⟨rfl, ?_⟩⟩
      have S2 : Same G' H2 := fun b o e => fr1 b o (ne_of_none e hx0) (sM _ _ e)
      have hd2 := S2 _ _ hd
      refine ⟨ws, hd2, sl_lt (by omega), fun b o e => ?_, _, upd_same, ?_⟩
      · rw [upd_ne (ne_of_none e hD)]
        exact S2 _ _ (s1 _ _ e)
      · rw [List.take_add_one, ef]
        exact ((fw.same S2).app (fat_one hF)).butL SameBut.upd hd2
    obtain ⟨s1, ws, hd, fw⟩ := hP
    rw [lf, List.take_length] at fw
    refine ⟨_, rfl, _, rfl, _, _, rfl, .inl (SqL.of (s1 _ _ hra)), fun r2 hr2 => ?_⟩
    generalize hG : upd _ r2 _ = G2
    obtain ⟨s2, h_r2⟩ := upd_gen hG hr2
    have S2 := s1.trans s2
    refine ⟨_, rfl, _, _, rfl, .inl (SqL.of (S2 _ _ hha)), fun h2 hh2 => ?_⟩
    generalize hG3 : upd _ h2 _ = G3
    obtain ⟨s3, h_h2⟩ := upd_gen hG3 hh2
    have S3 := S2.trans s3
    refine ⟨_, rfl, fun x dx hx0 hdx ne => ?_⟩
    have sM := make_same (C := CN) hx0 hdx ne
    have S4 := S3.trans sM
    refine ⟨x, dx, D, r2, h2, n, ws, rv, hv, rfl, upd_same, sM _ _ (s3 _ _ (s2 _ _ hd)), ((fw.same s2).same s3).same sM, sM _ _ (s3 _ _ h_r2), tr.same S4, sM _ _ h_h2, th.same S4, ok, fun H2 hN fr1 => ⟨rfl, q x H2 (fun b o e => fr1 b o (ne_of_none (S3 _ _ e) hx0) (S4 _ _ e)) hN.at⟩⟩

end
end E1

namespace E1
open PySem PySem.Spec PyProof.Rows L2

theorem call_strN {X : Cx} : CallR X (.type "str") (fun xs H Q => (xs = [.non] ∧ Q (.str "None") H) ∨ ∃ i : Int, xs = [.int i] ∧ i.natAbs.log2 < 1920 ∧ Q (.str (toString i)) H) := by
  intro pins s σ H xs us Q I r h
  rcases h with h | h
  · exact call_str_non pins s σ H xs us Q I r h
  · exact call_str_int pins s σ H xs us Q I r h
theorem ln_form : Str.ofString "form " = SX.S (formW ++ [32]) := rfl
theorem ln_enter : Str.ofString "enters " = SX.S (enterW ++ [32]) := rfl
theorem ln_hold : Str.ofString "hold " = SX.S (holdW ++ [32]) := rfl
theorem ln_out : Str.ofString "out " = SX.S (outW ++ [32]) := rfl
theorem sp_46 : Str.ofString "." = SX.S [46] := rfl
theorem line_one (w : List Nat) (n : Int) : SX.S (w ++ [32]) ++ Str.ofString (toString n) = SX.S (lineL w [n]) := by
  rw [int_itx, SX.S_cat, List.append_assoc]
  rfl
theorem line_three (w : List Nat) (a b c : Int) : SX.S (w ++ [32]) ++ Str.ofString (toString a) ++ SX.S [32] ++ Str.ofString (toString b) ++ SX.S [32] ++ Str.ofString (toString c) = SX.S (lineL w [a, b, c]) := by
  rw [int_itx, int_itx, int_itx]
  simp only [SX.S_cat, List.append_assoc]
  rfl
theorem form_six {f : FormP} {z : Str} (h : z = SX.S (wT f.w)) : SX.S (formW ++ [32]) ++ z ++ SX.S [46] ++ Str.ofString (toString f.pt) ++ SX.S [32] ++ f.m.str ++ SX.S [32] ++ endS f.st = SX.S (formLn f) := by
  rw [h, int_itx, Mn.l_str, endL_str]
  simp only [SX.S_cat, List.append_assoc]
  unfold formLn formT
  simp only [List.append_assoc, List.cons_append, List.nil_append]
theorem line_rest (w : List Nat) : ∀ ns : List Int, lineL w ns = w ++ TL.joinL [] (ns.map fun n => 32 :: itx n)
  | [] => (List.append_nil w).symm
  | [n] => rfl
  | n :: m :: r => by
    have ih := line_rest (itx n) (m :: r)
    show w ++ ([32] ++ lineL (itx n) (m :: r)) = w ++ ((32 :: itx n) ++ ([] ++ TL.joinL [] ((m :: r).map fun n => 32 :: itx n)))
    rw [ih]
    rfl
theorem joins0 {m : Nat} : ∀ {ps : List (List Nat)}, (∀ p ∈ ps, p.length ≤ m) → (TL.joinL [] ps).length ≤ m * ps.length
  | [], _ => Nat.zero_le _
  | [p], h => by
    have := h p List.mem_cons_self
    show p.length ≤ m * 1
    omega
  | p :: q :: r, h => by
    have := h p List.mem_cons_self
    have ih := joins0 (ps := q :: r) fun x hx => h x (List.mem_cons_of_mem _ hx)
    show (p ++ ([] ++ TL.joinL [] (q :: r))).length ≤ m * ((q :: r).length + 1)
    rw [Nat.mul_succ, List.nil_append, List.length_append]
    omega
def spLLines : Sp := fun vs H Q _ => ∃ (hp : Addr) (n : NetP), vs = [.ref hp] ∧ PartsAt H hp n ∧ NetT n ∧ ∀ l H', Same H H' → H' l = some (.lst (n.lines.map sV)) → Q (.ref l) H'
theorem five {a b c d e : List V} {n : NetP} (h1 : a = n.fs.map fun f => sV (formLn f)) (h2 : b = [sV (lineL enterW [(n.en : Int)])]) (h3 : c = n.rows.map fun r => sV (rowLn r)) (h4 : d = n.holds.map fun h => sV (holdLn h)) (h5 : e = [sV (lineL outW [(n.out : Int)])]) : (((a ++ b) ++ c) ++ d) ++ e = n.lines.map sV := by
  subst h1 h2 h3 h4 h5
  unfold NetP.lines
  simp only [List.map_append, List.map_map, List.map_cons, List.map_nil, List.append_assoc, List.cons_append, List.nil_append]
  rfl
section
variable {P : Program} {w : World} {K : PySem.W.Frag} {mg : Str → Option Value} {base : Heap}
theorem sc__law_lines : FnScope ["_law_parts", "_law_forms", "_law_enters", "_law_rows", "_law_holds", "_law_out", "_law_found", "_law_one", "_law_room", "_law_row_here", "_law_number", "_law_word_here"] ["_law_parts"] (defScope s__law_lines) := ⟨rfl, rfl, rfl, by decide +kernel, rfl, by decide +kernel, by decide +kernel⟩
theorem ok__law_lines {f : Addr} {fd : FuncData} {k : Nat} (F : Fun K "_law_lines" "_law_lines" s__law_lines f fd) (z : Zs mg) : FnOk P w K mg base CX0 (k + 1) f fd ["_law_parts"] spLLines := by
  refine F.ok sc__law_lines (fun vs H Q E h => ?_) (fun cdv A outer s H vs Q E hr h => ?_)
  · obtain ⟨hp, n, rfl, _⟩ := h
    rfl
  · obtain ⟨hp, n, rfl, ⟨fa, ra, ha, hhp, ⟨fv, hfa, tf⟩, ⟨rv, hra, tr⟩, ⟨hv, hha, th⟩⟩, t, q⟩ := h
    refine ⟨_, (pss_cons (ps_asg (pv 0) (pg_tup (by rfl) (pgs_cons (pg_name (i := 1) sc__law_lines.nd rfl (.inl rfl)) (pgs_cons (pg_name (i := 2) sc__law_lines.nd rfl (.inl rfl)) (pgs_cons (pg_name (i := 3) sc__law_lines.nd rfl (.inl rfl)) (pgs_cons (pg_name (i := 4) sc__law_lines.nd rfl (.inl rfl)) (pgs_cons (pg_name (i := 5) sc__law_lines.nd rfl (.inl rfl)) pgs_nil)))))))
      (pss_cons (ps_set (i := 6) sc__law_lines.nd rfl (.inl rfl) (pe_lst pa_nil))
      (pss_cons (ps_for PassesOwn.never rfl (pi_list (pv 1)) (pg_name (i := 7) sc__law_lines.nd rfl (.inl rfl)) (pss_cons (ps_set (i := 8) sc__law_lines.nd rfl (.inl rfl) (pe_ix ix_list (pe_lst (pa_cons pe_str (pa_cons (pe_callTy call_strN (by rfl) z.str (by decide +kernel) (pa_cons (pe_ix ix_tup (pv 7) pe_int (fun _ _ => rfl)) pa_nil)) pa_nil))) (pe_callTy call_int1 (by rfl) z.int (by decide +kernel) (pa_cons (pe_cmpR op_notN (pe_ix ix_tup (pv 7) pe_int (fun _ _ => rfl)) pe_non (nomark _)) pa_nil)) (fun _ _ => rfl)))
      (pss_one (ps_expr (pe_bm PySem.F.plainAttrs_list PySem.F.slot_list_append PySem.F.type_list_append mt_append (pv 6) (pa_cons (pe_op op_add_str (pe_op op_add_str (pe_op op_add_str (pe_op op_add_str (pe_op op_add_str (pe_op op_add_str (pe_op op_add_str pe_str (pv 8)) pe_str) (pe_callTy call_str_int (by rfl) z.str (by decide +kernel) (pa_cons (pe_ix ix_tup (pv 7) pe_int (fun _ _ => rfl)) pa_nil))) pe_str) (pe_ix ix_tup (pv 7) pe_int (fun _ _ => rfl))) pe_str) (pe_ix ix_tup (pv 7) pe_int (fun _ _ => rfl))) pa_nil))))))
      (pss_cons (ps_expr (pe_bm PySem.F.plainAttrs_list PySem.F.slot_list_append PySem.F.type_list_append mt_append (pv 6) (pa_cons (pe_op op_add_str pe_str (pe_callTy call_str_int (by rfl) z.str (by decide +kernel) (pa_cons (pv 2) pa_nil))) pa_nil)))
      (pss_cons (ps_for PassesOwn.never rfl (pi_list (pv 3)) (pg_name (i := 9) sc__law_lines.nd rfl (.inl rfl)) (pss_one (ps_expr (pe_bm PySem.F.plainAttrs_list PySem.F.slot_list_append PySem.F.type_list_append mt_append (pv 6) (pa_cons (pe_op op_add_str (pe_ix ix_tup (pv 9) pe_int (fun _ _ => rfl)) (pe_join pe_str (pe_lc (own := [("_law_number", 10)]) (g := gName 10) (tt := tYes) (by rfl) sc__law_lines.nd (pi_tup (pe_slice sl_tupA (pv 9) (po_some pe_int) po_none)) (blkOk_by (own := [("_law_number", 10)]) (N := ["_law_parts", "_law_forms", "_law_enters", "_law_rows", "_law_holds", "_law_out", "_law_found", "_law_one", "_law_room", "_law_row_here", "_law_number", "_law_word_here"]) (sc := defScope s__law_lines) (by decide +kernel)) (fun _ _ _ _ _ => by exact (pg_name (i := 10) sc__law_lines.nd rfl (.inl rfl))) (fun _ _ _ _ _ => by exact pts_nil) (fun _ _ _ _ _ => by exact (pe_op op_add_str pe_str (pe_callTy call_str_int (by rfl) z.str (by decide +kernel) (pa_cons (pv 10) pa_nil))))))) pa_nil)))))
      (pss_cons (ps_for PassesOwn.never rfl (pi_list (pv 4)) (pg_tup (by rfl) (pgs_cons (pg_name (i := 10) sc__law_lines.nd rfl (.inl rfl)) (pgs_cons (pg_name (i := 11) sc__law_lines.nd rfl (.inl rfl)) (pgs_cons (pg_name (i := 9) sc__law_lines.nd rfl (.inl rfl)) pgs_nil)))) (pss_one (ps_expr (pe_bm PySem.F.plainAttrs_list PySem.F.slot_list_append PySem.F.type_list_append mt_append (pv 6) (pa_cons (pe_op op_add_str (pe_op op_add_str (pe_op op_add_str (pe_op op_add_str (pe_op op_add_str pe_str (pe_callTy call_str_int (by rfl) z.str (by decide +kernel) (pa_cons (pv 10) pa_nil))) pe_str) (pe_callTy call_str_int (by rfl) z.str (by decide +kernel) (pa_cons (pv 11) pa_nil))) pe_str) (pe_callTy call_str_int (by rfl) z.str (by decide +kernel) (pa_cons (pv 9) pa_nil))) pa_nil)))))
      (pss_one (ps_ret (pe_op op_cat (pv 6) (pe_lst (pa_cons (pe_op op_add_str pe_str (pe_callTy call_str_int (by rfl) z.str (by decide +kernel) (pa_cons (pv 5) pa_nil))) pa_nil))))))))))), ?_⟩
    have ok := t.ok
    have f12 := ok.f2
    have r60 := ok.r2
    have h6 := ok.h2
    have lf := tf.len
    have lr := tr.rlen
    have lh := th.len
    rw [List.length_map] at lf lh
    refine ⟨_, rfl, hp, _, rfl, SqT.of hhp, rfl, _, _, rfl, _, _, rfl, _, _, rfl, _, _, rfl, _, _, rfl, rfl, (by show 0 ≤ sizeLine; decide), fun D hD => ?_⟩
    generalize hG : upd _ D _ = G0
    obtain ⟨s0, h_D⟩ := upd_gen hG hD
    have le5 : (SX.S (formW ++ [32])).length = 5 := rfl
    have le1 : (SX.S [46]).length = 1 := rfl
    have le6 : (SX.S [32]).length = 1 := rfl
    rw [ln_form, sp_46, sp_32, ln_enter, ln_hold, ln_out]
    refine ⟨_, rfl, fa, rfl, ⟨_, SqL.of (s0 _ _ hfa)⟩, for_it (walk_list (K := K) (a := fa) (xs := fv)) (fun i σ G => ∃ y7 y8 : Option V, σ = [some (.ref hp), some (.ref fa), some (.int n.en), some (.ref ra), some (.ref ha), some (.int n.out), some (.ref D), y7, y8, none, none, none] ∧ Same H G ∧ G D = some (.lst ((n.fs.take i).map fun f => sV (formLn f)))) ⟨none, none, rfl, s0, h_D⟩ (fun i σ G _ hP => ?_) (fun i v σ G G' hi hP hY => ?_) (fun σ G hP => ?_)⟩
    · obtain ⟨y7, y8, rfl, s1, _⟩ := hP
      exact SqL.of (s1 _ _ hfa)
    · obtain ⟨y7, y8, rfl, s1, hd⟩ := hP
      obtain ⟨rfl, hx⟩ := hY
      obtain ⟨p2, xs, rfl, exs, hp'⟩ := tf.get hx
      rw [List.getElem?_map] at exs
      obtain ⟨f, ef, rfl⟩ := Option.map_eq_some_iff.mp exs
      have hp2 := s1 _ _ hp'
      have fo := ok.fo f (List.mem_of_getElem? ef)
      have lp := ts_len fo.p0 fo.p1
      have lm := m_len f.m
      have le := e_len f.st
      cases hw : f.w with
      | none =>
        have hp2 : G' p2 = some (.tup [.non, .int f.pt, .str f.m.str, .str (endS f.st)]) := by
          have := hp2
          unfold FormP.vs at this
          rw [hw] at this
          exact this
        refine ⟨_, rfl, p2, _, 0, .non, rfl, rfl, SqT.of hp2, a0, .inl ⟨rfl, (by show 2 ≤ sizeLine; decide), fun L hL => ?_⟩⟩
        have sL := same_new (o := .lst [V.str "free", V.str "None"]) hL
        have lz : (Str.ofString "free").length = 4 := by decide +kernel
        refine ⟨_, rfl, p2, _, 0, .non, rfl, rfl, SqT.of (sL _ _ hp2), a0, rfl, .inr ⟨_, rfl, L, _, 0, .str "free", rfl, rfl, SqL.of upd_same, a0, ?_⟩⟩
        have hd2 := sL _ _ hd
        refine ⟨_, rfl, .inl ⟨rfl, _, SqL.of hd2⟩, _, rfl, _, _, rfl, rfl, (by simp only [Str.length_append, le5, le1, le6]; exact sl_le (by omega)), _, _, rfl, rfl, (by simp only [Str.length_append, le5, le1, le6]; exact sl_le (by omega)), _, rfl, p2, _, 1, .int f.pt, rfl, rfl, SqT.of (sL _ _ hp2), a1, _, rfl, lg fo.p0 fo.p1, _, _, rfl, rfl, (by simp only [Str.length_append, le5, le1, le6]; exact sl_le (by omega)), _, _, rfl, rfl, (by simp only [Str.length_append, le5, le1, le6]; exact sl_le (by omega)), _, rfl, p2, _, 2, .str f.m.str, rfl, rfl, SqT.of (sL _ _ hp2), a2, _, _, rfl, rfl, (by simp only [Str.length_append, le5, le1, le6]; exact sl_le (by omega)), _, _, rfl, rfl, (by simp only [Str.length_append, le5, le1, le6]; exact sl_le (by omega)), _, rfl, p2, _, 3, .str (endS f.st), rfl, rfl, SqT.of (sL _ _ hp2), (atI_nat (j := 3) rfl), _, _, rfl, rfl, (by simp only [Str.length_append, le5, le1, le6]; exact sl_le (by omega)), D, _, _, rfl, rfl, hd2, sl_lt (by rw [List.length_map, List.length_take]; omega), ?_⟩
        generalize hGn : upd _ D _ = Gn
        obtain ⟨bD, hdn⟩ := upd_but hGn
        refine ⟨_, _, rfl, same_but (s1.trans sL) bD hD, ?_⟩
        rw [hdn, List.take_add_one, ef, List.map_append, form_six (by rw [hw]; rfl)]
        rfl
      | some x =>
        have hp2 : G' p2 = some (.tup [.int x, .int f.pt, .str f.m.str, .str (endS f.st)]) := by
          have := hp2
          unfold FormP.vs at this
          rw [hw] at this
          exact this
        obtain ⟨n0, n1⟩ := fo.wo x hw
        refine ⟨_, rfl, p2, _, 0, .int x, rfl, rfl, SqT.of hp2, a0, .inr ⟨x, rfl, lg (by omega) n1, (by show 2 ≤ sizeLine; decide), fun L hL => ?_⟩⟩
        have sL := same_new (o := .lst [V.str "free", .str (toString x)]) hL
        have lz := ts_len (i := x) (by omega) n1
        refine ⟨_, rfl, p2, _, 0, .int x, rfl, rfl, SqT.of (sL _ _ hp2), a0, rfl, .inr ⟨_, rfl, L, _, 1, .str (toString x), rfl, rfl, SqL.of upd_same, a1, ?_⟩⟩
        have hd2 := sL _ _ hd
        refine ⟨_, rfl, .inl ⟨rfl, _, SqL.of hd2⟩, _, rfl, _, _, rfl, rfl, (by simp only [Str.length_append, le5, le1, le6]; exact sl_le (by omega)), _, _, rfl, rfl, (by simp only [Str.length_append, le5, le1, le6]; exact sl_le (by omega)), _, rfl, p2, _, 1, .int f.pt, rfl, rfl, SqT.of (sL _ _ hp2), a1, _, rfl, lg fo.p0 fo.p1, _, _, rfl, rfl, (by simp only [Str.length_append, le5, le1, le6]; exact sl_le (by omega)), _, _, rfl, rfl, (by simp only [Str.length_append, le5, le1, le6]; exact sl_le (by omega)), _, rfl, p2, _, 2, .str f.m.str, rfl, rfl, SqT.of (sL _ _ hp2), a2, _, _, rfl, rfl, (by simp only [Str.length_append, le5, le1, le6]; exact sl_le (by omega)), _, _, rfl, rfl, (by simp only [Str.length_append, le5, le1, le6]; exact sl_le (by omega)), _, rfl, p2, _, 3, .str (endS f.st), rfl, rfl, SqT.of (sL _ _ hp2), (atI_nat (j := 3) rfl), _, _, rfl, rfl, (by simp only [Str.length_append, le5, le1, le6]; exact sl_le (by omega)), D, _, _, rfl, rfl, hd2, sl_lt (by rw [List.length_map, List.length_take]; omega), ?_⟩
        generalize hGn : upd _ D _ = Gn
        obtain ⟨bD, hdn⟩ := upd_but hGn
        refine ⟨_, _, rfl, same_but (s1.trans sL) bD hD, ?_⟩
        rw [hdn, List.take_add_one, ef, List.map_append, form_six (by rw [hw]; exact int_itx x)]
        rfl
    obtain ⟨y7, y8, rfl, s1, hd⟩ := hP
    rw [lf, List.take_length] at hd
    have hen := ok.en
    have sme := t.enter n.en (by simp)
    have lie := itx_len sme
    have le7 : (SX.S (enterW ++ [32])).length = 7 := rfl
    refine ⟨_, rfl, .inl ⟨rfl, _, SqL.of hd⟩, _, rfl, _, rfl, log_ten sme, _, _, rfl, rfl, (by rw [int_itx, SX.S_len, SX.S_len]; exact sl_le (by show 7 + (itx _).length ≤ 100000; omega)), D, _, _, rfl, rfl, hd, sl_lt (by rw [List.length_map]; omega), ?_⟩
    generalize hG1 : upd _ D _ = G1
    obtain ⟨b1, hd1⟩ := upd_but hG1
    have S1 : Same H G1 := same_but s1 b1 hD
    clear b1 s1 hd hG1
    obtain ⟨A1, eA, l1⟩ : ∃ A1 : List V, A1 = (n.fs.map fun f => sV (formLn f)) ++ [.str (SX.S (enterW ++ [32]) ++ Str.ofString (toString (n.en : Int)))] ∧ A1.length ≤ 13 := ⟨_, rfl, by simp only [List.length_append, List.length_map, List.length_singleton]; omega⟩
    rw [← eA] at hd1
    refine ⟨_, rfl, ra, rfl, ⟨_, SqL.of (S1 _ _ hra)⟩, for_it (walk_list (K := K) (a := ra) (xs := rv)) (fun i σ G => ∃ y7 y8 y9 : Option V, σ = [some (.ref hp), some (.ref fa), some (.int n.en), some (.ref ra), some (.ref ha), some (.int n.out), some (.ref D), y7, y8, y9, none, none] ∧ Same H G ∧ G D = some (.lst (A1 ++ (n.rows.take i).map fun r => sV (rowLn r)))) ⟨_, _, none, rfl, S1, by rw [List.take_zero, List.map_nil, List.append_nil]; exact hd1⟩ (fun i σ G _ hP => ?_) (fun i v σ G G' hi hP hY => ?_) (fun σ G hP => ?_)⟩
    · obtain ⟨y7, y8, y9, rfl, s1, _⟩ := hP
      exact SqL.of (s1 _ _ hra)
    · obtain ⟨y7, y8, y9, rfl, s1, hd⟩ := hP
      obtain ⟨rfl, hx⟩ := hY
      obtain ⟨rp, xs, rfl, exs, hp'⟩ := tr.get hx
      rw [List.getElem?_map] at exs
      obtain ⟨r, er, rfl⟩ := Option.map_eq_some_iff.mp exs
      have hrp := s1 _ _ hp'
      have sm := t.row (List.mem_of_getElem? er)
      have rl := r.nums_le
      have rk := r.kd.no10.2.2
      rw [Row.vs_eq, Kd7.l_str] at hrp
      refine ⟨_, rfl, .inl ⟨rfl, _, SqL.of hd⟩, _, rfl, rp, _, 0, .str (SX.S r.kd.l), rfl, rfl, SqT.of hrp, a0, ⟨_, rfl⟩, _, rfl, _, rfl, rp, _, rfl, SqT.of hrp, fun e => absurd e.1 ?_, fun _ p hp => ?_⟩
      · rw [show (some (1 : Int)) = some ((1 : Nat) : Int) from rfl, HT.sIx_nat, List.length_cons]
        omega
      rw [cut_one]
      generalize hG : upd _ p _ = H1
      obtain ⟨s2, h_p⟩ := upd_gen hG hp
      have hd2 := s2 _ _ hd
      refine ⟨p, rfl, ⟨_, SqT.of h_p⟩, fun Da hDa => ?_⟩
      refine lc_it (walk_tup (K := K) (a := p) (xs := r.nums.map V.int)) (fun i H4 => Same H1 H4 ∧ H4 Da = some (.lst ((r.nums.take i).map fun n => sV (32 :: itx n)))) ⟨same_new hDa, upd_same⟩ (fun i H4 hi hP => Same.tup hP.1 (SqT.of h_p)) (fun i x' H4 H5 hi hP hy => ?_) (fun H4 hP => ?_)
      · obtain ⟨s4, hD4⟩ := hP
        obtain ⟨rfl, hx⟩ := hy
        rw [List.getElem?_map] at hx
        obtain ⟨n, hn, rfl⟩ := Option.map_eq_some_iff.mp hx
        have smn := sm n (List.mem_of_getElem? hn)
        have lin := itx_len smn
        refine ⟨rfl, _, rfl, _, rfl, log_ten smn, _, _, rfl, rfl, (by rw [int_itx, SX.S_len, SX.S_len]; exact sl_le (by show 1 + (itx _).length ≤ 100000; omega)), ?_⟩
        rw [int_itx, SX.S_cat]
        exact list_grow (p := fun n => sV (32 :: itx n)) (by omega) hDa s4 hD4 (Same.refl _) hn
      obtain ⟨s4, hD4⟩ := hP
      rw [List.length_map, List.take_length] at hD4
      have hd4 := s4 _ _ hd2
      have pl := sum_S (m := 402) (ps := r.nums.map fun n => 32 :: itx n) fun x hx => by
        obtain ⟨y, hy, rfl⟩ := List.mem_map.mp hx
        have := itx_len (sm y hy)
        simp only [List.length_cons]
        omega
      rw [List.length_map] at pl
      refine ⟨_, Da, (r.nums.map fun n => 32 :: itx n).map SX.S, rfl, rfl, .inl (SqL.of ?_), ?_, ?_⟩
      · rw [hD4, List.map_map, List.map_map]
        rfl
      · rw [show (Str.ofString "").length = 0 from rfl]
        exact Nat.le_trans (show _ ≤ 402 * 3 by omega) (by decide)
      rw [show Str.ofString "" = SX.S [] from rfl, SX.join_S]
      have lj := joins0 (m := 402) (ps := r.nums.map fun n => 32 :: itx n) fun x hx => by
        obtain ⟨y, hy, rfl⟩ := List.mem_map.mp hx
        have := itx_len (sm y hy)
        simp only [List.length_cons]
        omega
      rw [List.length_map] at lj
      refine ⟨_, _, rfl, rfl, (by rw [SX.S_len, SX.S_len]; exact sl_le (by omega)), D, _, _, rfl, rfl, hd4, sl_lt (by rw [List.length_append, List.length_map, List.length_take]; omega), ?_⟩
      generalize hGn : upd _ D _ = Gn
      obtain ⟨bD, hdn⟩ := upd_but hGn
      refine ⟨_, _, _, rfl, same_but ((s1.trans s2).trans s4) bD hD, ?_⟩
      rw [hdn, List.take_add_one, er, List.map_append, SX.S_cat, ← line_rest, List.append_assoc]
      rfl
    obtain ⟨y7, y8, y9, rfl, s1, hd⟩ := hP
    rw [tr.rlen, List.take_length] at hd
    obtain ⟨A2, eA2, l2⟩ : ∃ A2 : List V, A2 = A1 ++ (n.rows.map fun r => sV (rowLn r)) ∧ A2.length ≤ 73 := ⟨_, rfl, by simp only [List.length_append, List.length_map]; omega⟩
    rw [← eA2] at hd
    refine ⟨_, rfl, ha, rfl, ⟨_, SqL.of (s1 _ _ hha)⟩, for_it (walk_list (K := K) (a := ha) (xs := hv)) (fun i σ G => ∃ y7 y8 y9 y10 y11 : Option V, σ = [some (.ref hp), some (.ref fa), some (.int n.en), some (.ref ra), some (.ref ha), some (.int n.out), some (.ref D), y7, y8, y9, y10, y11] ∧ Same H G ∧ G D = some (.lst (A2 ++ (n.holds.take i).map fun h => sV (holdLn h)))) ⟨_, _, _, none, none, rfl, s1, by rw [List.take_zero, List.map_nil, List.append_nil]; exact hd⟩ (fun i σ G _ hP => ?_) (fun i v σ G G' hi hP hY => ?_) (fun σ G hP => ?_)⟩
    · obtain ⟨y7, y8, y9, y10, y11, rfl, s1, _⟩ := hP
      exact SqL.of (s1 _ _ hha)
    · obtain ⟨y7, y8, y9, y10, y11, rfl, s1, hd⟩ := hP
      obtain ⟨rfl, hx⟩ := hY
      obtain ⟨hp, xs, rfl, exs, hp'⟩ := th.get hx
      rw [List.getElem?_map] at exs
      obtain ⟨h, eh, rfl⟩ := Option.map_eq_some_iff.mp exs
      have hhp2 : G' hp = some (.tup [.int (h.k : Int), .int h.s, .int (h.l : Int)]) := s1 _ _ hp'
      have sm := t.hold (List.mem_of_getElem? eh)
      have m1 := sm (h.k : Int) (by simp [Hold.nums])
      have m2 := sm h.s (by simp [Hold.nums])
      have m3 := sm (h.l : Int) (by simp [Hold.nums])
      have i1 := itx_len m1
      have i2 := itx_len m2
      have i3 := itx_len m3
      refine ⟨hp, _, rfl, SqT.of hhp2, rfl, _, _, rfl, _, _, rfl, _, _, rfl, rfl, ?_⟩
      refine ⟨_, rfl, .inl ⟨rfl, _, SqL.of hd⟩, _, rfl, _, rfl, log_ten m1, _, _, rfl, rfl, (by simp only [Str.length_append, int_itx, SX.S_len, List.length_append, List.length_singleton]; exact sl_le (by show _ ≤ _; have : holdW.length = 4 := rfl; omega)), _, _, rfl, rfl, (by simp only [Str.length_append, int_itx, SX.S_len, List.length_append, List.length_singleton]; exact sl_le (by show _ ≤ _; have : holdW.length = 4 := rfl; omega)), _, rfl, _, rfl, log_ten m2, _, _, rfl, rfl, (by simp only [Str.length_append, int_itx, SX.S_len, List.length_append, List.length_singleton]; exact sl_le (by show _ ≤ _; have : holdW.length = 4 := rfl; omega)), _, _, rfl, rfl, (by simp only [Str.length_append, int_itx, SX.S_len, List.length_append, List.length_singleton]; exact sl_le (by show _ ≤ _; have : holdW.length = 4 := rfl; omega)), _, rfl, _, rfl, log_ten m3, _, _, rfl, rfl, (by simp only [Str.length_append, int_itx, SX.S_len, List.length_append, List.length_singleton]; exact sl_le (by show _ ≤ _; have : holdW.length = 4 := rfl; omega)), D, _, _, rfl, rfl, hd, sl_lt (by rw [List.length_append, List.length_map, List.length_take]; omega), ?_⟩
      generalize hGn : upd _ D _ = Gn
      obtain ⟨bD, hdn⟩ := upd_but hGn
      refine ⟨_, _, _, _, _, rfl, same_but s1 bD hD, ?_⟩
      rw [hdn, List.take_add_one, eh, List.map_append, line_three, List.append_assoc]
      rfl
    obtain ⟨y7, y8, y9, y10, y11, rfl, s1, hd⟩ := hP
    rw [lh, List.take_length] at hd
    have smo := t.outs n.out (by simp)
    have lio := itx_len smo
    refine ⟨_, rfl, _, rfl, _, rfl, log_ten smo, _, _, rfl, rfl, (by rw [int_itx, SX.S_len, SX.S_len]; exact sl_le (by show 4 + (itx _).length ≤ 100000; omega)), (by show 1 ≤ sizeLine; decide), fun L hL => ?_⟩
    generalize hG : upd _ L _ = G1
    obtain ⟨s2, h_L⟩ := upd_gen hG hL
    refine ⟨D, L, _, _, rfl, rfl, s2 _ _ hd, h_L, sl_le (by rw [List.length_append, List.length_map]; show _ + _ + 1 ≤ _; omega), fun R hR => ?_⟩
    generalize hGR : upd _ R _ = GR
    obtain ⟨s3, h_R⟩ := upd_gen hGR hR
    refine q R GR ((s1.trans s2).trans s3) ?_
    rw [h_R, eA2, eA]
    exact congrArg (fun x => some (HO.lst x)) (five rfl (by rw [line_one]) rfl rfl (by rw [line_one]))
end
end E1

namespace E1
open PySem PySem.Spec PyProof.Rows L2
theorem fsAt_prs {C : Addr} {H : Hp} {vs ws : List V} {fs : List FormP} (h : FsAt C H vs fs) (g : FsAt C H ws fs) : Prs (fun x y H => RFB C x y true H) vs ws H := by
  refine ⟨h.len.trans g.len.symm, fun i x y e1 e2 => ?_⟩
  obtain ⟨p, f, rfl, ef, hp⟩ := h.get e1
  obtain ⟨q, f2, rfl, ef2, hq⟩ := g.get e2
  rw [ef] at ef2
  cases ef2
  exact ⟨p, q, f, f, rfl, rfl, hp, hq, (fEq_refl f).symm⟩
theorem Same.updNew {H H1 : Hp} {l : Addr} {o : HO} (s : Same H H1) (h : H l = none) : Same H (upd H1 l o) := fun b x e => by
  rw [upd_ne (ne_of_none e h)]
  exact s _ _ e

def spLaw (K : PySem.W.Frag) : Sp := fun vs H Q _ => ∃ (a : Addr) (ns : List Int), vs = [.ref a] ∧ SqL K H a (ns.map V.int) ∧ ns.length ≤ 63 ∧ ∀ H', Q (.bl true) H'
theorem cins_net {K : PySem.W.Frag} {mg : Str → Option Value} {C CN : Addr} (TN : NTxt K mg CN) (IN : IsN K mg CN) {H : Hp} {a c : Addr} {n m : NetP} (h : NetAt C CN H a n) (g : NetAt C CN H c m) : CIns K CN (RNB K C CN) (.ref a) (.ref c) (eqN n m) H := by
  obtain ⟨_, dx, fl, rl, hl, pl, fv, rv, hv, b⟩ := id h
  obtain ⟨_, dx2, fl2, rl2, hl2, pl2, fv2, rv2, hv2, b2⟩ := id g
  exact ⟨a, dx, _, .ref CN, rfl, b.ob, .base (.ins b2.ob TN.cl IN.ha IN.hn IN.ht IN.hm), by simp [PySem.W.notFirst], a, n, rfl, h, .inl ⟨c, m, rfl, g, rfl⟩⟩

theorem rows_dp {K : PySem.W.Frag} {H : Hp} {a : Addr} {vs : List V} {rs : List Row} (e : H a = some (.lst vs)) (t : TsAt H vs (rs.map Row.vs)) : Dp K H (.ref a) (.list (tD (rs.map Row.vs))) := .lst (SqL.of e) (tsAt_dp t (rows_pla _))
theorem holds_dp {K : PySem.W.Frag} {H : Hp} {a : Addr} {vs : List V} {hs : List Hold} (e : H a = some (.lst vs)) (t : TsAt H vs (hs.map Hold.vs)) : Dp K H (.ref a) (.list (tD (hs.map Hold.vs))) := .lst (SqL.of e) (tsAt_dp t (holds_pla _))
theorem ne_same {xss : List (List V)} (h : PlaAll xss) : (!PyData.eqv (.list (tD xss)) (.list (tD xss))) = false := by rw [tD_refl h]; rfl
theorem ne_self (x : V) : (!decide (x = x)) = false := by rw [decide_eq_true rfl]; rfl
section
variable {P : Program} {w : World} {K : PySem.W.Frag} {mg : Str → Option Value} {base : Heap}
theorem sc_law : FnScope ["_law_script", "_law_parts", "_law_house", "_law_line_text", "_law_k", "_law_found"] ["_law_script"] (defScope s_law) := ⟨rfl, rfl, rfl, by decide +kernel, rfl, by decide +kernel, by decide +kernel⟩
theorem ok_law {f : Addr} {fd : FuncData} {C CN : Addr} (T : FTxt K mg C) (IC : IsC K mg C) (TN : NTxt K mg CN) (IN : IsN K mg CN) (F : Fun K "law" "law" s_law f fd) (z : Zs mg) {fF : Addr} {fdF : FuncData} (okF : FnOk P w K mg base CX0 1 fF fdF ["self", "other"] (spEqB (RFB C))) (OQ : OwnQ K C fF fdF) {fN : Addr} {fdN : FuncData} (okN : FnOk P w K mg base CX0 4 fN fdN ["self", "other"] (spEqB (RNB K C CN))) (ON : OwnQ K CN fN fdN) (c__law_cell_at : Cal P w K mg base 1 "_law_cell_at" ["_law_script", "_law_k"] (spCell K)) (c__law_well : Cal P w K mg base 1 "_law_well" ["_law_cell"] spWell) (c__law_net : Cal P w K mg base 3 "_law_net" ["_law_well_here"] spLNet) (c__law_made : Cal P w K mg base 8 "_law_made" ["_law_house"] (spLMade C CN)) (c__law_lines : Cal P w K mg base 1 "_law_lines" ["_law_parts"] spLLines) (c_show_net : Cal P w K mg base 3 "show_net" ["net"] (spShowNet C CN)) (c_show_net_0_net : CalK P w K mg base 3 "show_net" ["net"] 0 ["net"] (fun vs zs => vs ++ zs) (spShowNet C CN)) (c_read_net : Cal P w K mg base 8 "read_net" ["text"] (spReadNet C CN)) (c_read_net_0_text : CalK P w K mg base 8 "read_net" ["text"] 0 ["text"] (fun vs zs => vs ++ zs) (spReadNet C CN)) (n_forms : CalM P w K mg base 1 CN "forms" ["self"] (spFormsM C CN)) (n_rows : CalM P w K mg base 1 CN "rows" ["self"] (spRowsM C CN)) (n_holds : CalM P w K mg base 1 CN "holds" ["self"] (spHoldsM C CN)) (n_enters : CalM P w K mg base 1 CN "enters" ["self"] (spEnM C CN)) (n_out : CalM P w K mg base 1 CN "out" ["self"] (spOutM C CN)) : FnOk P w K mg base CX0 9 f fd ["_law_script"] (spLaw K) := by
  refine F.ok sc_law (fun vs H Q E h => ?_) (fun cdv A outer s H vs Q E hr h => ?_)
  · obtain ⟨as, ns, rfl, _⟩ := h
    rfl
  · obtain ⟨as, ns, rfl, hS, hlen, q⟩ := h
    refine ⟨_, (pss_cons (ps_set (i := 1) sc_law.nd rfl (.inl rfl) (pe_cal c__law_net hr (pa_cons (pe_cal c__law_well hr (pa_cons (pe_cal c__law_cell_at hr (pa_cons (pv 0) (pa_cons pe_int pa_nil))) pa_nil)) pa_nil)))
      (pss_cons (ps_set (i := 2) sc_law.nd rfl (.inl rfl) (pe_cal c__law_made hr (pa_cons (pv 1) pa_nil)))
      (pss_cons (ps_set (i := 3) sc_law.nd rfl (.inl rfl) (pe_join pe_str (pe_cal c__law_lines hr (pa_cons (pv 1) pa_nil))))
      (pss_cons (ps_for PassesOwn.never rfl (pi_range1 (by rfl) z.range (pa_cons pe_int pa_nil)) (pg_name (i := 4) sc_law.nd rfl (.inl rfl)) (pss_cons (ps_if (PW.pt (pw_or (pt_cmpR op_ne (pe_cal c_show_net hr (pa_cons (pv 2) pa_nil)) (pv 3) (nomark _)) (pw_or1 (pt_cmpR op_ne (pe_calk0 c_show_net_0_net hr (pk_cons (pv 2) pk_nil)) (pv 3) (nomark _))))) (pss_one (ps_ret pe_bl)) pss_nil)
      (pss_cons (ps_set (i := 5) sc_law.nd rfl (.inl rfl) (pe_cal c_read_net hr (pa_cons (pv 3) pa_nil)))
      (pss_cons (ps_if (PW.pt (pw_or (pt_not (pt_val (pe_callB call_isi (by rfl) z.isinstance (by decide +kernel) (pa_cons (pv 5) (pa_cons (pe_glob (v := .ref CN) (by rfl) IN.gC rfl) pa_nil))))) (pw_or (pt_not (pt_cmpR (op_eqB (rcB_ins okN ON.find ON.fn ON.b) (hr.mono (by decide))) (pv 5) (pv 2) (nomark _))) (pw_or1 (pt_not (pt_cmpR (op_eqB (rcB_ins okN ON.find ON.fn ON.b) (hr.mono (by decide))) (pe_calk0 c_read_net_0_text hr (pk_cons (pv 3) pk_nil)) (pv 2) (nomark _))))))) (pss_one (ps_ret pe_bl)) pss_nil)
      (pss_cons (ps_if (PW.pt (pw_or (pt_cmpR (op_neD (by have := hr.units; exact this)) (pe_calm0 (pv 5) TN.cl n_rows hr) (pe_ix ix_tup (pv 1) pe_int (fun _ _ => rfl)) (nomark _)) (pw_or (pt_cmpR (op_neD (by have := hr.units; exact this)) (pe_calm0 (pv 5) TN.cl n_holds hr) (pe_ix ix_tup (pv 1) pe_int (fun _ _ => rfl)) (nomark _)) (pw_or1 (pt_cmpR op_ne (pe_calm0 (pv 5) TN.cl n_out hr) (pe_ix ix_tup (pv 1) pe_int (fun _ _ => rfl)) (nomark _)))))) (pss_one (ps_ret pe_bl)) pss_nil)
      (pss_cons (ps_if (PW.pt (pw_or (pt_cmpR op_ne (pe_calm0 (pv 5) TN.cl n_enters hr) (pe_ix ix_tup (pv 1) pe_int (fun _ _ => rfl)) (nomark _)) (pw_or (pt_cmpR (op_neG (rcNe_list (D := fun x y H => RFB C x y true H) (fun x y H H2 e d => RFB.mon x y true H H2 e d) (EqB.g ((RcB.imp (rcB_ins okF OQ.find OQ.fn OQ.b) (RFB.cins T IC)).eqB (fun x y r H d => by obtain ⟨a, c, _, _, rfl, rfl, _⟩ := id d; exact ⟨a, c, rfl, rfl, fun e => by subst e; exact d.self⟩)))) (hr.mono (by decide))) (pe_calm0 (pv 5) TN.cl n_forms hr) (pe_calm0 (pv 2) TN.cl n_forms hr) (nomark _)) (pw_or1 (pt_cmpR op_ne (pe_cal c_show_net hr (pa_cons (pv 5) pa_nil)) (pv 3) (nomark _)))))) (pss_one (ps_ret pe_bl)) pss_nil)
      (pss_one (ps_expr (pe_bm0 PySem.F.plainAttrs_list PySem.F.slot_list_clear PySem.F.type_list_clear mt_clear (pe_calm0 (pv 5) TN.cl n_rows hr))))))))))
      (pss_one (ps_ret (pe_cmpR (op_eqB (rcB_ins okN ON.find ON.fn ON.b) (hr.mono (by decide))) (pv 2) (pe_cal c__law_made hr (pa_cons (pv 1) pa_nil)) (nomark _)))))))), ?_⟩
    refine ⟨_, rfl, as, ns, 0, rfl, hS, _, rfl, fun a ha0 H1 s1 k1 => ?_⟩
    refine ⟨a, rfl, k1.mono (by omega), fun n pa H2 ok _ hs70 _ l26 _ sb2 _ hppA => ?_⟩
    have PA := hppA H2 (.refl _ _)
    have t : NetT n := ⟨ok, hs70⟩
    clear hppA sb2 k1 s1 hs70 hlen hS
    refine ⟨_, rfl, pa, n, rfl, PA, ok, fun ph H3 s3 hn => ?_⟩
    replace PA := PA.same s3
    refine ⟨⟨_, rfl⟩, _, rfl, pa, n, rfl, PA, t, fun L H4 s4 h_L => ?_⟩
    replace PA := PA.same s4
    replace hn := hn.same s4
    have eL : n.lines.map sV = (n.lines.map SX.S).map V.str := by
      rw [List.map_map]
      rfl
    refine ⟨_, L, n.lines.map SX.S, rfl, rfl, .inl (SqL.of (by rw [← eL]; exact h_L)), ?_, ?_⟩
    · have := sum_S (m := 1300) (ps := n.lines) fun x hx => (t.line hx).2
      have e1 : (Str.ofString "
").length = 1 := rfl
      have := lines_len n
      have := ok.f2
      have := ok.r2
      have := ok.h2
      rw [e1, List.length_map]
      have : n.lines.length ≤ 80 := by omega
      exact Nat.le_trans (show _ ≤ 1301 * 80 by omega) (by decide)
    rw [show Str.ofString "
" = SX.S [10] from rfl, SX.join_S]
    clear h_L s4 s3 eL
    refine ⟨_, rfl, by decide, by decide, ?_⟩
    have r60 := ok.r2
    have h6 := ok.h2
    obtain ⟨fa, ra, ha, hpa, tfa, ⟨rv, hra, tr⟩, ⟨hv, hha, th⟩⟩ := id PA
    refine for_it walk_range (fun i σ G => ∃ y4 y5 : Option V, σ = [some (.ref as), some (.ref pa), some (.ref ph), some (sV n.text), y4, y5] ∧ Same H4 G) ⟨none, none, rfl, .refl _⟩ (fun _ _ _ _ _ => trivial) (fun i x σ G G' hi hP hY => ?_) (fun σ G hP => ?_)
    · obtain ⟨y4, y5, rfl, sg⟩ := hP
      obtain ⟨rfl, rfl⟩ := hY
      refine ⟨_, rfl, ph, n, rfl, hn.same sg, t, fun G1 s1 => ⟨_, rfl, rfl, _, rfl, iteC (d := false) (ne_self _) (iteF ?_)⟩⟩
      replace s1 : Same H4 G1 := Same.trans sg s1
      refine ⟨_, rfl, rfl, rfl, ph, n, rfl, hn.same s1, t, fun G2 s2 => ⟨_, rfl, rfl, _, rfl, iteC (d := false) (ne_self _) (iteF ?_)⟩⟩
      replace s2 : Same H4 G2 := Same.trans s1 s2
      refine ⟨_, rfl, n, rfl, t, fun pn G3 s3 _ hf => ?_⟩
      replace s3 : Same H4 G3 := Same.trans s2 s3
      clear s1 s2
      obtain ⟨_, dx, fl, rl, hl, pl, fvn, rvn, hvn, bn⟩ := id hf
      have rn := eqN_refl n
      refine ⟨_, rfl, _, .ref CN, .ref CN, .ref CN, true, rfl, .own CN, .base (.ins bn.ob TN.cl IN.ha IN.hn IN.ht IN.hm), IN.kC, _, rfl, iteC (d := false) rfl (iteF ?_)⟩
      refine ⟨_, rfl, _, rfl, _, cins_net TN IN hf (hn.same s3), fun G4 s4 => ⟨_, rfl, iteC (d := false) (by rw [rn]; rfl) (iteF ?_)⟩⟩
      replace hf := hf.same s4
      replace s4 : Same H4 G4 := Same.trans s3 s4
      refine ⟨_, rfl, rfl, rfl, n, rfl, t, fun p2 G5 s5 _ hf2 => ⟨_, rfl, ?_⟩⟩
      replace hf := hf.same s5
      replace s5 : Same H4 G5 := Same.trans s4 s5
      refine ⟨_, cins_net TN IN hf2 (hn.same s5), fun G6 s6 => ⟨_, rfl, iteC (d := false) (by rw [rn]; rfl) (iteF ?_)⟩⟩
      replace hf := hf.same s6
      replace s6 : Same H4 G6 := Same.trans s5 s6
      clear s3 s4 s5 hf2 bn
      obtain ⟨_, dx, fl, rl, hl, pl, fvn, rvn, hvn, bn⟩ := id hf
      refine ⟨_, rfl, pn, dx, _, rfl, bn.ob, nl_no (by decide +kernel), pn, n, rfl, hf, fun l1 rv1 G7 hl1 s7 h_l1 hr1 => ?_⟩
      have S7 : Same H4 G7 := Same.trans s6 s7
      refine ⟨_, rfl, pa, _, 2, .ref ra, rfl, rfl, SqT.of (S7 _ _ hpa), a2, _, _, rows_dp h_l1 hr1, rows_dp (S7 _ _ hra) (tr.same S7), tD_shaped (rows_pla _), tD_shaped (rows_pla _), _, rfl, iteC (d := false) (ne_same (rows_pla _)) (iteF ?_)⟩
      refine ⟨_, rfl, pn, dx, _, rfl, (s7 _ _ bn.ob), nl_no (by decide +kernel), pn, n, rfl, hf.same s7, fun l2 hv2 G8 hl2 s8 h_l2 hh2 => ?_⟩
      replace s8 := s7.trans s8
      have S8 : Same H4 G8 := Same.trans s6 s8
      refine ⟨_, rfl, pa, _, 3, .ref ha, rfl, rfl, SqT.of (S8 _ _ hpa), (atI_nat (j := 3) rfl), _, _, holds_dp h_l2 hh2, holds_dp (S8 _ _ hha) (th.same S8), tD_shaped (holds_pla _), tD_shaped (holds_pla _), _, rfl, iteC (d := false) (ne_same (holds_pla _)) (iteF ?_)⟩
      refine ⟨_, rfl, pn, dx, _, rfl, (s8 _ _ bn.ob), nl_no (by decide +kernel), pn, n, rfl, hf.same s8, _, rfl, pa, _, 4, .int n.out, rfl, rfl, SqT.of (S8 _ _ hpa), (atI_nat (j := 4) rfl), rfl, _, rfl, iteC (d := false) (ne_self _) (iteF ?_)⟩
      refine ⟨_, rfl, pn, dx, _, rfl, (s8 _ _ bn.ob), nl_no (by decide +kernel), pn, n, rfl, hf.same s8, _, rfl, pa, _, 1, .int n.en, rfl, rfl, SqT.of (S8 _ _ hpa), a1, rfl, _, rfl, iteC (d := false) (ne_self _) (iteF ?_)⟩
      refine ⟨_, rfl, pn, dx, _, rfl, (s8 _ _ bn.ob), nl_no (by decide +kernel), pn, n, rfl, hf.same s8, fun l3 fv3 G9 hl3 s9 h_l3 hf3 => ?_⟩
      have S9 : Same H4 G9 := Same.trans S8 s9
      obtain ⟨_, dxh, flh, rlh, hlh, plh, fvh, rvh, hvh, bh⟩ := id (hn.same S9)
      refine ⟨_, rfl, ph, dxh, _, rfl, bh.ob, nl_no (by decide +kernel), ph, n, rfl, hn.same S9, fun l4 fv4 GA hl4 sA h_l4 hf4 => ⟨⟨l3, l4, fv3, fv4, rfl, rfl, sA _ _ h_l3, h_l4, fsAt_prs (hf3.same sA) hf4⟩, fun GB eB => ⟨_, rfl, iteC (d := false) rfl (iteF ?_)⟩⟩⟩
      have hfB : NetAt C CN GB pn n := ((hf.same s8).same s9).same (Same.trans sA eB)
      replace sA : Same H4 GB := S9.trans (sA.trans eB)
      refine ⟨_, rfl, pn, n, rfl, hfB, t, fun GC sC => ⟨_, rfl, rfl, _, rfl, iteC (d := false) (ne_self _) (iteF ?_)⟩⟩
      replace hfB := hfB.same sC
      replace sC : Same H4 GC := Same.trans sA sC
      obtain ⟨_, dxc, flc, rlc, hlc, plc, fvc, rvc, hvc, bc⟩ := id hfB
      refine ⟨_, rfl, pn, dxc, _, rfl, bc.ob, nl_no (by decide +kernel), pn, n, rfl, hfB, fun l5 rv5 GD hl5 sD h_l5 hr5 => ⟨.inl ⟨rfl, _, SqL.of h_l5⟩, l5, _, rfl, rfl, h_l5, _, _, rfl, ?_⟩⟩
      exact Same.trans sC (Same.updNew sD hl5)
    obtain ⟨y4, y5, rfl, sg⟩ := hP
    refine ⟨_, rfl, _, rfl, pa, n, rfl, PA.same sg, ok, fun p4 K7 e7 N4 => ⟨_, cins_net TN IN ((hn.same sg).same e7) N4, fun K8 e8 => ?_⟩⟩
    show Q (.bl (eqN n n)) K8
    rw [eqN_refl]
    exact q _
end
end E1

namespace E1
open PySem PySem.Spec PyProof.Rows L2
/-- late -/
theorem kkeys {K : PySem.W.Frag} {w : World} {A : Addr} {es : Array DictEntry} {n : Nat} {ks : List Str} (D : KDict K w A es n) (h : es.toList.map keyZ = ks.map some) : KKeys K w A es n ks := by
  refine ⟨D, ?_, fun i z hz => ?_⟩
  · have := congrArg List.length h
    rw [List.length_map, List.length_map] at this
    exact this
  · have e := congrArg (fun l => l[i]?) h
    replace e : (es.toList.map keyZ)[i]? = (ks.map some)[i]? := e
    rw [List.getElem?_map, List.getElem?_map, hz] at e
    obtain ⟨en, h1, h2⟩ := Option.map_eq_some_iff.mp e
    obtain ⟨t, h3⟩ := keyZ_some h2
    exact ⟨en, t, by rw [← Array.getElem?_toList]; exact h1, h3⟩
theorem noman {K : PySem.W.Frag} {w : World} {A : Addr} {es : Array DictEntry} {n : Nat} (D : KDict K w A es n) (h : es.toList.map keyZ = (["down", "up", "in", "out", "half", "even", "far"] : List Str).map some) : NoMan K A := fun y hy => by
  refine nsIn_none D.at_ (l := ["down", "up", "in", "out", "half", "even", "far"]) ?_ (fun u hu => ?_)
  · unfold keysIn
    rw [List.all_eq_true]
    intro e he
    have m : keyZ e ∈ es.toList.map keyZ := List.mem_map_of_mem he
    rw [h] at m
    obtain ⟨z, hz, e2⟩ := List.mem_map.mp m
    obtain ⟨t, e3⟩ := keyZ_some e2.symm
    rw [e3]
    exact List.any_eq_true.mpr ⟨z, hz, beq_self_eq_true z⟩
  · simp only [List.mem_cons, List.not_mem_nil, or_false] at hu
    rcases hu with rfl | rfl | rfl | rfl | rfl | rfl | rfl
    · exact hy .down
    · exact hy .up
    · exact hy .inn
    · exact hy .out
    · exact hy .half
    · exact hy .even
    · exact hy .far
theorem all_mk {l : PySem.W.OpenLaw} {w : World} {K : PySem.W.Frag} {h : Heap} {mg : Str → Option Value} {fa : Addr} {C : Addr} {CN : Addr} {CE : Addr} {CB : Addr} {A_ENDS : Addr} {A_MANNERS : Addr} {A_POINT_RULES : Addr} {A_ROW_LENGTHS : Addr} {A_OTHER_LENGTHS : Addr} {A_PARTS_AHEAD : Addr} (e_C : He.ga K "Form" = C) (e_CN : He.ga K "Net" = CN) (e_CE : He.ga K "EchoError" = CE) (e_CB : He.ga K "BadForm" = CB) (e_A_ENDS : He.ga K "ENDS" = A_ENDS) (e_A_MANNERS : He.ga K "MANNERS" = A_MANNERS) (e_A_POINT_RULES : He.ga K "POINT_RULES" = A_POINT_RULES) (e_A_ROW_LENGTHS : He.ga K "ROW_LENGTHS" = A_ROW_LENGTHS) (e_A_OTHER_LENGTHS : He.ga K "OTHER_LENGTHS" = A_OTHER_LENGTHS) (e_A_PARTS_AHEAD : He.ga K "PARTS_AHEAD" = A_PARTS_AHEAD) (X : K.In h) (G : h.Ns mainGlobals mg) (hfa : mg "law" = some (.ref fa)) (hfile : (l.prog.main.file : Str) = "/claim/cut.py") (htop : (l.prog.main.scope.names.lookup ("super" : Str)).isSome = false) (c : SaysY FA FN TS EXB ER w K) :
    ∃ fd : FuncData, (∀ (s : Shared) (v : Value), BindsTo s fd ⟨[v], []⟩ [("_law_script", v)]) ∧ ∀ base : Heap, K.In base → base.Ns mainGlobals mg → FnOk l.prog w K mg base CX0 9 fa fd ["_law_script"] (spLaw K) := by
  obtain ⟨fd_is_whole, F0_is_whole⟩ := c.t.d.def_ 0 (d := dd_is_whole) rfl
  have F_is_whole : Fun K "is_whole" "is_whole" s_is_whole (He.ga K "is_whole") fd_is_whole := fun_of F0_is_whole
  have k_is_whole := F_is_whole.kp
  have a_is_whole : PySem.W.nsIn K mainGlobals "is_whole" = some (some (.ref (He.ga K "is_whole"))) := He.eqO_ok (c.t.d.fact 0 (f := .glo "is_whole") rfl)
  have b_is_whole := F_is_whole.binds (ps := ["thing"]) fun _ _ _ _ _ _ us hl => match us, hl with | [_], _ => rfl
  obtain ⟨fd_downward, F0_downward⟩ := c.t.d.def_ 1 (d := dd_downward) rfl
  have F_downward : Fun K "downward" "downward" s_downward (He.ga K "downward") fd_downward := fun_of F0_downward
  have k_downward := F_downward.kp
  have a_downward : PySem.W.nsIn K mainGlobals "downward" = some (some (.ref (He.ga K "downward"))) := He.eqO_ok (c.t.d.fact 1 (f := .glo "downward") rfl)
  have b_downward := F_downward.binds (ps := ["top", "bottom"]) fun _ _ _ _ _ _ us hl => match us, hl with | [_, _], _ => rfl
  obtain ⟨fd_upward, F0_upward⟩ := c.t.d.def_ 2 (d := dd_upward) rfl
  have F_upward : Fun K "upward" "upward" s_upward (He.ga K "upward") fd_upward := fun_of F0_upward
  have k_upward := F_upward.kp
  have a_upward : PySem.W.nsIn K mainGlobals "upward" = some (some (.ref (He.ga K "upward"))) := He.eqO_ok (c.t.d.fact 2 (f := .glo "upward") rfl)
  have b_upward := F_upward.binds (ps := ["top", "bottom"]) fun _ _ _ _ _ _ us hl => match us, hl with | [_, _], _ => rfl
  obtain ⟨fd_inward, F0_inward⟩ := c.t.d.def_ 3 (d := dd_inward) rfl
  have F_inward : Fun K "inward" "inward" s_inward (He.ga K "inward") fd_inward := fun_of F0_inward
  have k_inward := F_inward.kp
  have a_inward : PySem.W.nsIn K mainGlobals "inward" = some (some (.ref (He.ga K "inward"))) := He.eqO_ok (c.t.d.fact 3 (f := .glo "inward") rfl)
  have b_inward := F_inward.binds (ps := ["top", "bottom"]) fun _ _ _ _ _ _ us hl => match us, hl with | [_, _], _ => rfl
  obtain ⟨fd_outward, F0_outward⟩ := c.t.d.def_ 4 (d := dd_outward) rfl
  have F_outward : Fun K "outward" "outward" s_outward (He.ga K "outward") fd_outward := fun_of F0_outward
  have k_outward := F_outward.kp
  have a_outward : PySem.W.nsIn K mainGlobals "outward" = some (some (.ref (He.ga K "outward"))) := He.eqO_ok (c.t.d.fact 4 (f := .glo "outward") rfl)
  have b_outward := F_outward.binds (ps := ["top", "bottom"]) fun _ _ _ _ _ _ us hl => match us, hl with | [_, _], _ => rfl
  obtain ⟨fd_nearest_greater, F0_nearest_greater⟩ := c.t.d.def_ 5 (d := dd_nearest_greater) rfl
  have F_nearest_greater : Fun K "nearest_greater" "nearest_greater" s_nearest_greater (He.ga K "nearest_greater") fd_nearest_greater := fun_of F0_nearest_greater
  have k_nearest_greater := F_nearest_greater.kp
  have a_nearest_greater : PySem.W.nsIn K mainGlobals "nearest_greater" = some (some (.ref (He.ga K "nearest_greater"))) := He.eqO_ok (c.t.d.fact 5 (f := .glo "nearest_greater") rfl)
  have b_nearest_greater := F_nearest_greater.binds (ps := ["top", "bottom"]) fun _ _ _ _ _ _ us hl => match us, hl with | [_, _], _ => rfl
  obtain ⟨fd_nearest_even, F0_nearest_even⟩ := c.t.d.def_ 6 (d := dd_nearest_even) rfl
  have F_nearest_even : Fun K "nearest_even" "nearest_even" s_nearest_even (He.ga K "nearest_even") fd_nearest_even := fun_of F0_nearest_even
  have k_nearest_even := F_nearest_even.kp
  have a_nearest_even : PySem.W.nsIn K mainGlobals "nearest_even" = some (some (.ref (He.ga K "nearest_even"))) := He.eqO_ok (c.t.d.fact 6 (f := .glo "nearest_even") rfl)
  have b_nearest_even := F_nearest_even.binds (ps := ["top", "bottom"]) fun _ _ _ _ _ _ us hl => match us, hl with | [_, _], _ => rfl
  obtain ⟨fd_nearest_far, F0_nearest_far⟩ := c.t.d.def_ 7 (d := dd_nearest_far) rfl
  have F_nearest_far : Fun K "nearest_far" "nearest_far" s_nearest_far (He.ga K "nearest_far") fd_nearest_far := fun_of F0_nearest_far
  have k_nearest_far := F_nearest_far.kp
  have a_nearest_far : PySem.W.nsIn K mainGlobals "nearest_far" = some (some (.ref (He.ga K "nearest_far"))) := He.eqO_ok (c.t.d.fact 7 (f := .glo "nearest_far") rfl)
  have b_nearest_far := F_nearest_far.binds (ps := ["top", "bottom"]) fun _ _ _ _ _ _ us hl => match us, hl with | [_, _], _ => rfl
  obtain ⟨fd_is_manner, F0_is_manner⟩ := c.t.d.def_ 8 (d := dd_is_manner) rfl
  have F_is_manner : Fun K "is_manner" "is_manner" s_is_manner (He.ga K "is_manner") fd_is_manner := fun_of F0_is_manner
  have k_is_manner := F_is_manner.kp
  have a_is_manner : PySem.W.nsIn K mainGlobals "is_manner" = some (some (.ref (He.ga K "is_manner"))) := He.eqO_ok (c.t.d.fact 8 (f := .glo "is_manner") rfl)
  have b_is_manner := F_is_manner.binds (ps := ["thing"]) fun _ _ _ _ _ _ us hl => match us, hl with | [_], _ => rfl
  obtain ⟨fd_is_width, F0_is_width⟩ := c.t.d.def_ 9 (d := dd_is_width) rfl
  have F_is_width : Fun K "is_width" "is_width" s_is_width (He.ga K "is_width") fd_is_width := fun_of F0_is_width
  have k_is_width := F_is_width.kp
  have a_is_width : PySem.W.nsIn K mainGlobals "is_width" = some (some (.ref (He.ga K "is_width"))) := He.eqO_ok (c.t.d.fact 9 (f := .glo "is_width") rfl)
  have b_is_width := F_is_width.binds (ps := ["thing"]) fun _ _ _ _ _ _ us hl => match us, hl with | [_], _ => rfl
  obtain ⟨fd_is_point, F0_is_point⟩ := c.t.d.def_ 10 (d := dd_is_point) rfl
  have F_is_point : Fun K "is_point" "is_point" s_is_point (He.ga K "is_point") fd_is_point := fun_of F0_is_point
  have k_is_point := F_is_point.kp
  have a_is_point : PySem.W.nsIn K mainGlobals "is_point" = some (some (.ref (He.ga K "is_point"))) := He.eqO_ok (c.t.d.fact 10 (f := .glo "is_point") rfl)
  have b_is_point := F_is_point.binds (ps := ["thing"]) fun _ _ _ _ _ _ us hl => match us, hl with | [_], _ => rfl
  obtain ⟨fd_is_ends, F0_is_ends⟩ := c.t.d.def_ 11 (d := dd_is_ends) rfl
  have F_is_ends : Fun K "is_ends" "is_ends" s_is_ends (He.ga K "is_ends") fd_is_ends := fun_of F0_is_ends
  have k_is_ends := F_is_ends.kp
  have a_is_ends : PySem.W.nsIn K mainGlobals "is_ends" = some (some (.ref (He.ga K "is_ends"))) := He.eqO_ok (c.t.d.fact 11 (f := .glo "is_ends") rfl)
  have b_is_ends := F_is_ends.binds (ps := ["thing"]) fun _ _ _ _ _ _ us hl => match us, hl with | [_], _ => rfl
  obtain ⟨fd_is_place, F0_is_place⟩ := c.t.d.def_ 12 (d := dd_is_place) rfl
  have F_is_place : Fun K "is_place" "is_place" s_is_place (He.ga K "is_place") fd_is_place := fun_of F0_is_place
  have k_is_place := F_is_place.kp
  have a_is_place : PySem.W.nsIn K mainGlobals "is_place" = some (some (.ref (He.ga K "is_place"))) := He.eqO_ok (c.t.d.fact 12 (f := .glo "is_place") rfl)
  have b_is_place := F_is_place.binds (ps := ["thing", "many"]) fun _ _ _ _ _ _ us hl => match us, hl with | [_, _], _ => rfl
  obtain ⟨fd_is_factor, F0_is_factor⟩ := c.t.d.def_ 13 (d := dd_is_factor) rfl
  have F_is_factor : Fun K "is_factor" "is_factor" s_is_factor (He.ga K "is_factor") fd_is_factor := fun_of F0_is_factor
  have k_is_factor := F_is_factor.kp
  have a_is_factor : PySem.W.nsIn K mainGlobals "is_factor" = some (some (.ref (He.ga K "is_factor"))) := He.eqO_ok (c.t.d.fact 13 (f := .glo "is_factor") rfl)
  have b_is_factor := F_is_factor.binds (ps := ["thing"]) fun _ _ _ _ _ _ us hl => match us, hl with | [_], _ => rfl
  obtain ⟨fd_in_point, F0_in_point⟩ := c.t.d.def_ 14 (d := dd_in_point) rfl
  have F_in_point : Fun K "in_point" "in_point" s_in_point (He.ga K "in_point") fd_in_point := fun_of F0_in_point
  have k_in_point := F_in_point.kp
  have a_in_point : PySem.W.nsIn K mainGlobals "in_point" = some (some (.ref (He.ga K "in_point"))) := He.eqO_ok (c.t.d.fact 14 (f := .glo "in_point") rfl)
  have b_in_point := F_in_point.binds (ps := ["row", "points", "given"]) fun _ _ _ _ _ _ us hl => match us, hl with | [_, _, _], _ => rfl
  obtain ⟨fd_old_point, F0_old_point⟩ := c.t.d.def_ 15 (d := dd_old_point) rfl
  have F_old_point : Fun K "old_point" "old_point" s_old_point (He.ga K "old_point") fd_old_point := fun_of F0_old_point
  have k_old_point := F_old_point.kp
  have a_old_point : PySem.W.nsIn K mainGlobals "old_point" = some (some (.ref (He.ga K "old_point"))) := He.eqO_ok (c.t.d.fact 15 (f := .glo "old_point") rfl)
  have b_old_point := F_old_point.binds (ps := ["row", "points", "given"]) fun _ _ _ _ _ _ us hl => match us, hl with | [_, _, _], _ => rfl
  obtain ⟨fd_times_point, F0_times_point⟩ := c.t.d.def_ 16 (d := dd_times_point) rfl
  have F_times_point : Fun K "times_point" "times_point" s_times_point (He.ga K "times_point") fd_times_point := fun_of F0_times_point
  have k_times_point := F_times_point.kp
  have a_times_point : PySem.W.nsIn K mainGlobals "times_point" = some (some (.ref (He.ga K "times_point"))) := He.eqO_ok (c.t.d.fact 16 (f := .glo "times_point") rfl)
  have b_times_point := F_times_point.binds (ps := ["row", "points", "given"]) fun _ _ _ _ _ _ us hl => match us, hl with | [_, _, _], _ => rfl
  obtain ⟨fd_sum_point, F0_sum_point⟩ := c.t.d.def_ 17 (d := dd_sum_point) rfl
  have F_sum_point : Fun K "sum_point" "sum_point" s_sum_point (He.ga K "sum_point") fd_sum_point := fun_of F0_sum_point
  have k_sum_point := F_sum_point.kp
  have a_sum_point : PySem.W.nsIn K mainGlobals "sum_point" = some (some (.ref (He.ga K "sum_point"))) := He.eqO_ok (c.t.d.fact 17 (f := .glo "sum_point") rfl)
  have b_sum_point := F_sum_point.binds (ps := ["row", "points", "given"]) fun _ _ _ _ _ _ us hl => match us, hl with | [_, _, _], _ => rfl
  obtain ⟨fd_move_point, F0_move_point⟩ := c.t.d.def_ 18 (d := dd_move_point) rfl
  have F_move_point : Fun K "move_point" "move_point" s_move_point (He.ga K "move_point") fd_move_point := fun_of F0_move_point
  have k_move_point := F_move_point.kp
  have a_move_point : PySem.W.nsIn K mainGlobals "move_point" = some (some (.ref (He.ga K "move_point"))) := He.eqO_ok (c.t.d.fact 18 (f := .glo "move_point") rfl)
  have b_move_point := F_move_point.binds (ps := ["row", "points", "given"]) fun _ _ _ _ _ _ us hl => match us, hl with | [_, _, _], _ => rfl
  obtain ⟨fd_keep_point, F0_keep_point⟩ := c.t.d.def_ 19 (d := dd_keep_point) rfl
  have F_keep_point : Fun K "keep_point" "keep_point" s_keep_point (He.ga K "keep_point") fd_keep_point := fun_of F0_keep_point
  have k_keep_point := F_keep_point.kp
  have a_keep_point : PySem.W.nsIn K mainGlobals "keep_point" = some (some (.ref (He.ga K "keep_point"))) := He.eqO_ok (c.t.d.fact 19 (f := .glo "keep_point") rfl)
  have b_keep_point := F_keep_point.binds (ps := ["row", "points", "given"]) fun _ _ _ _ _ _ us hl => match us, hl with | [_, _, _], _ => rfl
  obtain ⟨fd_is_written_as_row, F0_is_written_as_row⟩ := c.t.d.def_ 20 (d := dd_is_written_as_row) rfl
  have F_is_written_as_row : Fun K "is_written_as_row" "is_written_as_row" s_is_written_as_row (He.ga K "is_written_as_row") fd_is_written_as_row := fun_of F0_is_written_as_row
  have k_is_written_as_row := F_is_written_as_row.kp
  have a_is_written_as_row : PySem.W.nsIn K mainGlobals "is_written_as_row" = some (some (.ref (He.ga K "is_written_as_row"))) := He.eqO_ok (c.t.d.fact 20 (f := .glo "is_written_as_row") rfl)
  have b_is_written_as_row := F_is_written_as_row.binds (ps := ["thing"]) fun _ _ _ _ _ _ us hl => match us, hl with | [_], _ => rfl
  obtain ⟨fd_row_point, F0_row_point⟩ := c.t.d.def_ 21 (d := dd_row_point) rfl
  have F_row_point : Fun K "row_point" "row_point" s_row_point (He.ga K "row_point") fd_row_point := fun_of F0_row_point
  have k_row_point := F_row_point.kp
  have a_row_point : PySem.W.nsIn K mainGlobals "row_point" = some (some (.ref (He.ga K "row_point"))) := He.eqO_ok (c.t.d.fact 21 (f := .glo "row_point") rfl)
  have b_row_point := F_row_point.binds (ps := ["row", "points", "given"]) fun _ _ _ _ _ _ us hl => match us, hl with | [_, _, _], _ => rfl
  obtain ⟨fd_check_length, F0_check_length⟩ := c.t.d.def_ 22 (d := dd_check_length) rfl
  have F_check_length : Fun K "check_length" "check_length" s_check_length (He.ga K "check_length") fd_check_length := fun_of F0_check_length
  have k_check_length := F_check_length.kp
  have a_check_length : PySem.W.nsIn K mainGlobals "check_length" = some (some (.ref (He.ga K "check_length"))) := He.eqO_ok (c.t.d.fact 22 (f := .glo "check_length") rfl)
  have b_check_length := F_check_length.binds (ps := ["thing", "part", "least", "most"]) fun _ _ _ _ _ _ us hl => match us, hl with | [_, _, _, _], _ => rfl
  obtain ⟨fd_check_forms, F0_check_forms⟩ := c.t.d.def_ 23 (d := dd_check_forms) rfl
  have F_check_forms : Fun K "check_forms" "check_forms" s_check_forms (He.ga K "check_forms") fd_check_forms := fun_of F0_check_forms
  have k_check_forms := F_check_forms.kp
  have a_check_forms : PySem.W.nsIn K mainGlobals "check_forms" = some (some (.ref (He.ga K "check_forms"))) := He.eqO_ok (c.t.d.fact 23 (f := .glo "check_forms") rfl)
  have b_check_forms := F_check_forms.binds (ps := ["forms"]) fun _ _ _ _ _ _ us hl => match us, hl with | [_], _ => rfl
  obtain ⟨fd_is_hold, F0_is_hold⟩ := c.t.d.def_ 24 (d := dd_is_hold) rfl
  have F_is_hold : Fun K "is_hold" "is_hold" s_is_hold (He.ga K "is_hold") fd_is_hold := fun_of F0_is_hold
  have k_is_hold := F_is_hold.kp
  have a_is_hold : PySem.W.nsIn K mainGlobals "is_hold" = some (some (.ref (He.ga K "is_hold"))) := He.eqO_ok (c.t.d.fact 24 (f := .glo "is_hold") rfl)
  have b_is_hold := F_is_hold.binds (ps := ["thing", "forms"]) fun _ _ _ _ _ _ us hl => match us, hl with | [_, _], _ => rfl
  obtain ⟨fd_check_holds, F0_check_holds⟩ := c.t.d.def_ 25 (d := dd_check_holds) rfl
  have F_check_holds : Fun K "check_holds" "check_holds" s_check_holds (He.ga K "check_holds") fd_check_holds := fun_of F0_check_holds
  have k_check_holds := F_check_holds.kp
  have a_check_holds : PySem.W.nsIn K mainGlobals "check_holds" = some (some (.ref (He.ga K "check_holds"))) := He.eqO_ok (c.t.d.fact 25 (f := .glo "check_holds") rfl)
  have b_check_holds := F_check_holds.binds (ps := ["holds", "forms"]) fun _ _ _ _ _ _ us hl => match us, hl with | [_, _], _ => rfl
  obtain ⟨fd_checked_points, F0_checked_points⟩ := c.t.d.def_ 26 (d := dd_checked_points) rfl
  have F_checked_points : Fun K "checked_points" "checked_points" s_checked_points (He.ga K "checked_points") fd_checked_points := fun_of F0_checked_points
  have k_checked_points := F_checked_points.kp
  have a_checked_points : PySem.W.nsIn K mainGlobals "checked_points" = some (some (.ref (He.ga K "checked_points"))) := He.eqO_ok (c.t.d.fact 26 (f := .glo "checked_points") rfl)
  have b_checked_points := F_checked_points.binds (ps := ["rows", "given"]) fun _ _ _ _ _ _ us hl => match us, hl with | [_, _], _ => rfl
  obtain ⟨fd_check_links, F0_check_links⟩ := c.t.d.def_ 27 (d := dd_check_links) rfl
  have F_check_links : Fun K "check_links" "check_links" s_check_links (He.ga K "check_links") fd_check_links := fun_of F0_check_links
  have k_check_links := F_check_links.kp
  have a_check_links : PySem.W.nsIn K mainGlobals "check_links" = some (some (.ref (He.ga K "check_links"))) := He.eqO_ok (c.t.d.fact 27 (f := .glo "check_links") rfl)
  have b_check_links := F_check_links.binds (ps := ["holds", "rows"]) fun _ _ _ _ _ _ us hl => match us, hl with | [_, _], _ => rfl
  obtain ⟨fd_whole_of, F0_whole_of⟩ := c.t.d.def_ 28 (d := dd_whole_of) rfl
  have F_whole_of : Fun K "whole_of" "whole_of" s_whole_of (He.ga K "whole_of") fd_whole_of := fun_of F0_whole_of
  have k_whole_of := F_whole_of.kp
  have a_whole_of : PySem.W.nsIn K mainGlobals "whole_of" = some (some (.ref (He.ga K "whole_of"))) := He.eqO_ok (c.t.d.fact 28 (f := .glo "whole_of") rfl)
  have b_whole_of := F_whole_of.binds (ps := ["text"]) fun _ _ _ _ _ _ us hl => match us, hl with | [_], _ => rfl
  obtain ⟨fd_wholes_of, F0_wholes_of⟩ := c.t.d.def_ 29 (d := dd_wholes_of) rfl
  have F_wholes_of : Fun K "wholes_of" "wholes_of" s_wholes_of (He.ga K "wholes_of") fd_wholes_of := fun_of F0_wholes_of
  have k_wholes_of := F_wholes_of.kp
  have a_wholes_of : PySem.W.nsIn K mainGlobals "wholes_of" = some (some (.ref (He.ga K "wholes_of"))) := He.eqO_ok (c.t.d.fact 29 (f := .glo "wholes_of") rfl)
  have b_wholes_of := F_wholes_of.binds (ps := ["texts"]) fun _ _ _ _ _ _ us hl => match us, hl with | [_], _ => rfl
  obtain ⟨fd_show_row, F0_show_row⟩ := c.t.d.def_ 30 (d := dd_show_row) rfl
  have F_show_row : Fun K "show_row" "show_row" s_show_row (He.ga K "show_row") fd_show_row := fun_of F0_show_row
  have k_show_row := F_show_row.kp
  have a_show_row : PySem.W.nsIn K mainGlobals "show_row" = some (some (.ref (He.ga K "show_row"))) := He.eqO_ok (c.t.d.fact 30 (f := .glo "show_row") rfl)
  have b_show_row := F_show_row.binds (ps := ["row"]) fun _ _ _ _ _ _ us hl => match us, hl with | [_], _ => rfl
  obtain ⟨fd_show_net, F0_show_net⟩ := c.t.d.def_ 31 (d := dd_show_net) rfl
  have F_show_net : Fun K "show_net" "show_net" s_show_net (He.ga K "show_net") fd_show_net := fun_of F0_show_net
  have k_show_net := F_show_net.kp
  have a_show_net : PySem.W.nsIn K mainGlobals "show_net" = some (some (.ref (He.ga K "show_net"))) := He.eqO_ok (c.t.d.fact 31 (f := .glo "show_net") rfl)
  have b_show_net := F_show_net.binds (ps := ["net"]) fun _ _ _ _ _ _ us hl => match us, hl with | [_], _ => rfl
  obtain ⟨fd_check_text, F0_check_text⟩ := c.t.d.def_ 32 (d := dd_check_text) rfl
  have F_check_text : Fun K "check_text" "check_text" s_check_text (He.ga K "check_text") fd_check_text := fun_of F0_check_text
  have k_check_text := F_check_text.kp
  have a_check_text : PySem.W.nsIn K mainGlobals "check_text" = some (some (.ref (He.ga K "check_text"))) := He.eqO_ok (c.t.d.fact 32 (f := .glo "check_text") rfl)
  have b_check_text := F_check_text.binds (ps := ["thing"]) fun _ _ _ _ _ _ us hl => match us, hl with | [_], _ => rfl
  obtain ⟨fd_form_of, F0_form_of⟩ := c.t.d.def_ 33 (d := dd_form_of) rfl
  have F_form_of : Fun K "form_of" "form_of" s_form_of (He.ga K "form_of") fd_form_of := fun_of F0_form_of
  have k_form_of := F_form_of.kp
  have a_form_of : PySem.W.nsIn K mainGlobals "form_of" = some (some (.ref (He.ga K "form_of"))) := He.eqO_ok (c.t.d.fact 33 (f := .glo "form_of") rfl)
  have b_form_of := F_form_of.binds (ps := ["text"]) fun _ _ _ _ _ _ us hl => match us, hl with | [_], _ => rfl
  obtain ⟨fd_part_of_line, F0_part_of_line⟩ := c.t.d.def_ 34 (d := dd_part_of_line) rfl
  have F_part_of_line : Fun K "part_of_line" "part_of_line" s_part_of_line (He.ga K "part_of_line") fd_part_of_line := fun_of F0_part_of_line
  have k_part_of_line := F_part_of_line.kp
  have a_part_of_line : PySem.W.nsIn K mainGlobals "part_of_line" = some (some (.ref (He.ga K "part_of_line"))) := He.eqO_ok (c.t.d.fact 34 (f := .glo "part_of_line") rfl)
  have b_part_of_line := F_part_of_line.binds (ps := ["line"]) fun _ _ _ _ _ _ us hl => match us, hl with | [_], _ => rfl
  obtain ⟨fd_parts_of_text, F0_parts_of_text⟩ := c.t.d.def_ 35 (d := dd_parts_of_text) rfl
  have F_parts_of_text : Fun K "parts_of_text" "parts_of_text" s_parts_of_text (He.ga K "parts_of_text") fd_parts_of_text := fun_of F0_parts_of_text
  have k_parts_of_text := F_parts_of_text.kp
  have a_parts_of_text : PySem.W.nsIn K mainGlobals "parts_of_text" = some (some (.ref (He.ga K "parts_of_text"))) := He.eqO_ok (c.t.d.fact 35 (f := .glo "parts_of_text") rfl)
  have b_parts_of_text := F_parts_of_text.binds (ps := ["text"]) fun _ _ _ _ _ _ us hl => match us, hl with | [_], _ => rfl
  obtain ⟨fd_read_net, F0_read_net⟩ := c.t.d.def_ 36 (d := dd_read_net) rfl
  have F_read_net : Fun K "read_net" "read_net" s_read_net (He.ga K "read_net") fd_read_net := fun_of F0_read_net
  have k_read_net := F_read_net.kp
  have a_read_net : PySem.W.nsIn K mainGlobals "read_net" = some (some (.ref (He.ga K "read_net"))) := He.eqO_ok (c.t.d.fact 36 (f := .glo "read_net") rfl)
  have b_read_net := F_read_net.binds (ps := ["text"]) fun _ _ _ _ _ _ us hl => match us, hl with | [_], _ => rfl
  obtain ⟨fd__law_cell_at, F0__law_cell_at⟩ := c.t.d.def_ 37 (d := dd__law_cell_at) rfl
  have F__law_cell_at : Fun K "_law_cell_at" "_law_cell_at" s__law_cell_at (He.ga K "_law_cell_at") fd__law_cell_at := fun_of F0__law_cell_at
  have k__law_cell_at := F__law_cell_at.kp
  have a__law_cell_at : PySem.W.nsIn K mainGlobals "_law_cell_at" = some (some (.ref (He.ga K "_law_cell_at"))) := He.eqO_ok (c.t.d.fact 37 (f := .glo "_law_cell_at") rfl)
  have b__law_cell_at := F__law_cell_at.binds (ps := ["_law_script", "_law_k"]) fun _ _ _ _ _ _ us hl => match us, hl with | [_, _], _ => rfl
  obtain ⟨fd__law_well, F0__law_well⟩ := c.t.d.def_ 38 (d := dd__law_well) rfl
  have F__law_well : Fun K "_law_well" "_law_well" s__law_well (He.ga K "_law_well") fd__law_well := fun_of F0__law_well
  have k__law_well := F__law_well.kp
  have a__law_well : PySem.W.nsIn K mainGlobals "_law_well" = some (some (.ref (He.ga K "_law_well"))) := He.eqO_ok (c.t.d.fact 38 (f := .glo "_law_well") rfl)
  have b__law_well := F__law_well.binds (ps := ["_law_cell"]) fun _ _ _ _ _ _ us hl => match us, hl with | [_], _ => rfl
  obtain ⟨fd__law_draw, F0__law_draw⟩ := c.t.d.def_ 39 (d := dd__law_draw) rfl
  have F__law_draw : Fun K "_law_draw" "_law_draw" s__law_draw (He.ga K "_law_draw") fd__law_draw := fun_of F0__law_draw
  have k__law_draw := F__law_draw.kp
  have a__law_draw : PySem.W.nsIn K mainGlobals "_law_draw" = some (some (.ref (He.ga K "_law_draw"))) := He.eqO_ok (c.t.d.fact 39 (f := .glo "_law_draw") rfl)
  have b__law_draw := F__law_draw.binds (ps := ["_law_well_here", "_law_many"]) fun _ _ _ _ _ _ us hl => match us, hl with | [_, _], _ => rfl
  obtain ⟨fd__law_form, F0__law_form⟩ := c.t.d.def_ 40 (d := dd__law_form) rfl
  have F__law_form : Fun K "_law_form" "_law_form" s__law_form (He.ga K "_law_form") fd__law_form := fun_of F0__law_form
  have k__law_form := F__law_form.kp
  have a__law_form : PySem.W.nsIn K mainGlobals "_law_form" = some (some (.ref (He.ga K "_law_form"))) := He.eqO_ok (c.t.d.fact 40 (f := .glo "_law_form") rfl)
  have b__law_form := F__law_form.binds (ps := ["_law_well_here", "_law_free", "_law_reach"]) fun _ _ _ _ _ _ us hl => match us, hl with | [_, _, _], _ => rfl
  obtain ⟨fd__law_word, F0__law_word⟩ := c.t.d.def_ 41 (d := dd__law_word) rfl
  have F__law_word : Fun K "_law_word" "_law_word" s__law_word (He.ga K "_law_word") fd__law_word := fun_of F0__law_word
  have k__law_word := F__law_word.kp
  have a__law_word : PySem.W.nsIn K mainGlobals "_law_word" = some (some (.ref (He.ga K "_law_word"))) := He.eqO_ok (c.t.d.fact 41 (f := .glo "_law_word") rfl)
  have b__law_word := F__law_word.binds (ps := ["_law_well_here", "_law_form_here"]) fun _ _ _ _ _ _ us hl => match us, hl with | [_, _], _ => rfl
  obtain ⟨fd__law_row, F0__law_row⟩ := c.t.d.def_ 42 (d := dd__law_row) rfl
  have F__law_row : Fun K "_law_row" "_law_row" s__law_row (He.ga K "_law_row") fd__law_row := fun_of F0__law_row
  have k__law_row := F__law_row.kp
  have a__law_row : PySem.W.nsIn K mainGlobals "_law_row" = some (some (.ref (He.ga K "_law_row"))) := He.eqO_ok (c.t.d.fact 42 (f := .glo "_law_row") rfl)
  have b__law_row := F__law_row.binds (ps := ["_law_well_here", "_law_count", "_law_at", "_law_free", "_law_reach", "_law_held"]) fun _ _ _ _ _ _ us hl => match us, hl with | [_, _, _, _, _, _], _ => rfl
  obtain ⟨fd__law_begin, F0__law_begin⟩ := c.t.d.def_ 43 (d := dd__law_begin) rfl
  have F__law_begin : Fun K "_law_begin" "_law_begin" s__law_begin (He.ga K "_law_begin") fd__law_begin := fun_of F0__law_begin
  have k__law_begin := F__law_begin.kp
  have a__law_begin : PySem.W.nsIn K mainGlobals "_law_begin" = some (some (.ref (He.ga K "_law_begin"))) := He.eqO_ok (c.t.d.fact 43 (f := .glo "_law_begin") rfl)
  have b__law_begin := F__law_begin.binds (ps := ["_law_well_here", "_law_held"]) fun _ _ _ _ _ _ us hl => match us, hl with | [_, _], _ => rfl
  obtain ⟨fd__law_mixed, F0__law_mixed⟩ := c.t.d.def_ 44 (d := dd__law_mixed) rfl
  have F__law_mixed : Fun K "_law_mixed" "_law_mixed" s__law_mixed (He.ga K "_law_mixed") fd__law_mixed := fun_of F0__law_mixed
  have k__law_mixed := F__law_mixed.kp
  have a__law_mixed : PySem.W.nsIn K mainGlobals "_law_mixed" = some (some (.ref (He.ga K "_law_mixed"))) := He.eqO_ok (c.t.d.fact 44 (f := .glo "_law_mixed") rfl)
  have b__law_mixed := F__law_mixed.binds (ps := ["_law_well_here", "_law_made_here", "_law_reach"]) fun _ _ _ _ _ _ us hl => match us, hl with | [_, _, _], _ => rfl
  obtain ⟨fd__law_link, F0__law_link⟩ := c.t.d.def_ 45 (d := dd__law_link) rfl
  have F__law_link : Fun K "_law_link" "_law_link" s__law_link (He.ga K "_law_link") fd__law_link := fun_of F0__law_link
  have k__law_link := F__law_link.kp
  have a__law_link : PySem.W.nsIn K mainGlobals "_law_link" = some (some (.ref (He.ga K "_law_link"))) := He.eqO_ok (c.t.d.fact 45 (f := .glo "_law_link") rfl)
  have b__law_link := F__law_link.binds (ps := ["_law_well_here", "_law_made_here", "_law_kind", "_law_last"]) fun _ _ _ _ _ _ us hl => match us, hl with | [_, _, _, _], _ => rfl
  obtain ⟨fd__law_net, F0__law_net⟩ := c.t.d.def_ 46 (d := dd__law_net) rfl
  have F__law_net : Fun K "_law_net" "_law_net" s__law_net (He.ga K "_law_net") fd__law_net := fun_of F0__law_net
  have k__law_net := F__law_net.kp
  have a__law_net : PySem.W.nsIn K mainGlobals "_law_net" = some (some (.ref (He.ga K "_law_net"))) := He.eqO_ok (c.t.d.fact 46 (f := .glo "_law_net") rfl)
  have b__law_net := F__law_net.binds (ps := ["_law_well_here"]) fun _ _ _ _ _ _ us hl => match us, hl with | [_], _ => rfl
  obtain ⟨fd__law_made, F0__law_made⟩ := c.t.d.def_ 47 (d := dd__law_made) rfl
  have F__law_made : Fun K "_law_made" "_law_made" s__law_made (He.ga K "_law_made") fd__law_made := fun_of F0__law_made
  have k__law_made := F__law_made.kp
  have a__law_made : PySem.W.nsIn K mainGlobals "_law_made" = some (some (.ref (He.ga K "_law_made"))) := He.eqO_ok (c.t.d.fact 47 (f := .glo "_law_made") rfl)
  have b__law_made := F__law_made.binds (ps := ["_law_house"]) fun _ _ _ _ _ _ us hl => match us, hl with | [_], _ => rfl
  obtain ⟨fd__law_lines, F0__law_lines⟩ := c.t.d.def_ 48 (d := dd__law_lines) rfl
  have F__law_lines : Fun K "_law_lines" "_law_lines" s__law_lines (He.ga K "_law_lines") fd__law_lines := fun_of F0__law_lines
  have k__law_lines := F__law_lines.kp
  have a__law_lines : PySem.W.nsIn K mainGlobals "_law_lines" = some (some (.ref (He.ga K "_law_lines"))) := He.eqO_ok (c.t.d.fact 48 (f := .glo "_law_lines") rfl)
  have b__law_lines := F__law_lines.binds (ps := ["_law_parts"]) fun _ _ _ _ _ _ us hl => match us, hl with | [_], _ => rfl
  obtain ⟨fd_law, F0_law⟩ := c.t.d.def_ 49 (d := dd_law) rfl
  have F_law : Fun K "law" "law" s_law (He.ga K "law") fd_law := fun_of F0_law
  have k_law := F_law.kp
  have a_law : PySem.W.nsIn K mainGlobals "law" = some (some (.ref (He.ga K "law"))) := He.eqO_ok (c.t.d.fact 49 (f := .glo "law") rfl)
  have b_law := F_law.binds (ps := ["_law_script"]) fun _ _ _ _ _ _ us hl => match us, hl with | [_], _ => rfl
  have aC_C : PySem.W.nsIn K mainGlobals "Form" = some (some (.ref C)) := by
    rw [← e_C]
    exact He.eqO_ok (c.t.d.fact 50 (f := .glo "Form") rfl)
  have cl_C : Cls K C := by
    rw [← e_C]
    exact He.cls_ok (c.t.d.fact 51 (f := .cls "Form") rfl)
  have pg_C := cl_C.1
  have hd_C := cl_C.2
  have po_C := cl_C.3
  have sa_C := cl_C.4
  have mk0_C : Mk K C (He.ma K (He.ga K "Form") "__init__") := by
    rw [← e_C]
    exact He.mkr_ok (c.t.d.fact 52 (f := .mkr "Form") rfl)
  have mk_C := mk0_C.1
  have kc_C := mk0_C.4
  have n_C_width : NoAttr K C "width" := by
    rw [← e_C]
    exact He.noat_ok (c.t.d.fact 53 (f := .noat "Form" "width") rfl)
  have n_C_point : NoAttr K C "point" := by
    rw [← e_C]
    exact He.noat_ok (c.t.d.fact 54 (f := .noat "Form" "point") rfl)
  have n_C_manner : NoAttr K C "manner" := by
    rw [← e_C]
    exact He.noat_ok (c.t.d.fact 55 (f := .noat "Form" "manner") rfl)
  have n_C_ends : NoAttr K C "ends" := by
    rw [← e_C]
    exact He.noat_ok (c.t.d.fact 56 (f := .noat "Form" "ends") rfl)
  have aC_CN : PySem.W.nsIn K mainGlobals "Net" = some (some (.ref CN)) := by
    rw [← e_CN]
    exact He.eqO_ok (c.t.d.fact 57 (f := .glo "Net") rfl)
  have cl_CN : Cls K CN := by
    rw [← e_CN]
    exact He.cls_ok (c.t.d.fact 58 (f := .cls "Net") rfl)
  have pg_CN := cl_CN.1
  have hd_CN := cl_CN.2
  have po_CN := cl_CN.3
  have sa_CN := cl_CN.4
  have mk0_CN : Mk K CN (He.ma K (He.ga K "Net") "__init__") := by
    rw [← e_CN]
    exact He.mkr_ok (c.t.d.fact 59 (f := .mkr "Net") rfl)
  have mk_CN := mk0_CN.1
  have kc_CN := mk0_CN.4
  have n_CN_form_list : NoAttr K CN "form_list" := by
    rw [← e_CN]
    exact He.noat_ok (c.t.d.fact 60 (f := .noat "Net" "form_list") rfl)
  have n_CN_enters_at : NoAttr K CN "enters_at" := by
    rw [← e_CN]
    exact He.noat_ok (c.t.d.fact 61 (f := .noat "Net" "enters_at") rfl)
  have n_CN_row_list : NoAttr K CN "row_list" := by
    rw [← e_CN]
    exact He.noat_ok (c.t.d.fact 62 (f := .noat "Net" "row_list") rfl)
  have n_CN_hold_list : NoAttr K CN "hold_list" := by
    rw [← e_CN]
    exact He.noat_ok (c.t.d.fact 63 (f := .noat "Net" "hold_list") rfl)
  have n_CN_out_at : NoAttr K CN "out_at" := by
    rw [← e_CN]
    exact He.noat_ok (c.t.d.fact 64 (f := .noat "Net" "out_at") rfl)
  have n_CN_point_list : NoAttr K CN "point_list" := by
    rw [← e_CN]
    exact He.noat_ok (c.t.d.fact 65 (f := .noat "Net" "point_list") rfl)
  have aC_CE : PySem.W.nsIn K mainGlobals "EchoError" = some (some (.ref CE)) := by
    rw [← e_CE]
    exact He.eqO_ok (c.t.d.fact 66 (f := .glo "EchoError") rfl)
  have aC_CB : PySem.W.nsIn K mainGlobals "BadForm" = some (some (.ref CB)) := by
    rw [← e_CB]
    exact He.eqO_ok (c.t.d.fact 67 (f := .glo "BadForm") rfl)
  have ei_CB : PySem.W.excInitIn K (He.ga K "BadForm") PySem.ErrX.bmA "ArithmeticError.__new__" = true := of_decide_eq_true (ex_at c.more (i := 0) (b := decide (PySem.W.excInitIn K (He.ga K "BadForm") PySem.ErrX.bmA "ArithmeticError.__new__" = true)) rfl)
  rw [e_CB] at ei_CB
  have eo_CB : PySem.W.excOver K (He.ga K "BadForm") PySem.ErrX.bmA = true := of_decide_eq_true (ex_at c.more (i := 1) (b := decide (PySem.W.excOver K (He.ga K "BadForm") PySem.ErrX.bmA = true)) rfl)
  rw [e_CB] at eo_CB
  have sa_CB : PySem.W.findIn K (.ref (He.ga K "BadForm")) "__setattr__" = some (some (.builtin "object.__setattr__")) := of_decide_eq_true (ex_at c.more (i := 2) (b := decide (PySem.W.findIn K (.ref (He.ga K "BadForm")) "__setattr__" = some (some (.builtin "object.__setattr__")))) rfl)
  rw [e_CB] at sa_CB
  have ga_CB : PySem.W.findIn K (.ref (He.ga K "BadForm")) "__getattribute__" = some (some (.builtin "BaseException.__getattribute__")) := of_decide_eq_true (ex_at c.more (i := 3) (b := decide (PySem.W.findIn K (.ref (He.ga K "BadForm")) "__getattribute__" = some (some (.builtin "BaseException.__getattribute__")))) rfl)
  rw [e_CB] at ga_CB
  have gg_CB : PySem.W.findIn K (.ref (He.ga K "BadForm")) "__getattr__" = some none := of_decide_eq_true (ex_at c.more (i := 4) (b := decide (PySem.W.findIn K (.ref (He.ga K "BadForm")) "__getattr__" = some none)) rfl)
  rw [e_CB] at gg_CB
  have kC_CB : PySem.W.keepIn K (.ref (He.ga K "BadForm")) = true := of_decide_eq_true (ex_at c.more (i := 5) (b := decide (PySem.W.keepIn K (.ref (He.ga K "BadForm")) = true)) rfl)
  rw [e_CB] at kC_CB
  have ex_CB : PySem.W.subIn K (.ref (He.ga K "BadForm")) (.type "BaseException") = some true := of_decide_eq_true (ex_at c.more (i := 6) (b := decide (PySem.W.subIn K (.ref (He.ga K "BadForm")) (.type "BaseException") = some true)) rfl)
  rw [e_CB] at ex_CB
  have ty_CB : PySem.W.typeIn K (.ref (He.ga K "BadForm")) = some (.type "type") := of_decide_eq_true (ex_at c.more (i := 7) (b := decide (PySem.W.typeIn K (.ref (He.ga K "BadForm")) = some (.type "type"))) rfl)
  rw [e_CB] at ty_CB
  have hd_CB : PySem.W.hasDictIn K (He.ga K "BadForm") = true := of_decide_eq_true (ex_at c.more (i := 8) (b := decide (PySem.W.hasDictIn K (He.ga K "BadForm") = true)) rfl)
  rw [e_CB] at hd_CB
  have ha_CB : PySem.W.findIn K (.ref (He.ga K "BadForm")) "__class__" = some (some (.builtin "object.__class__")) := of_decide_eq_true (ex_at c.more (i := 9) (b := decide (PySem.W.findIn K (.ref (He.ga K "BadForm")) "__class__" = some (some (.builtin "object.__class__")))) rfl)
  rw [e_CB] at ha_CB
  have hn_CB : PySem.W.specialIn K (.builtin "object.__class__") "__get__" = some (some (.builtin "getset_descriptor.__get__")) := of_decide_eq_true (ex_at c.more (i := 10) (b := decide (PySem.W.specialIn K (.builtin "object.__class__") "__get__" = some (some (.builtin "getset_descriptor.__get__")))) rfl)
  have ht_CB : PySem.W.takesIn K (.builtin "object.__class__") = some true := of_decide_eq_true (ex_at c.more (i := 11) (b := decide (PySem.W.takesIn K (.builtin "object.__class__") = some true)) rfl)
  have hm_CB : PySem.W.mroIn K (He.ga K "BadForm") (.type "object") = some true := of_decide_eq_true (ex_at c.more (i := 12) (b := decide (PySem.W.mroIn K (He.ga K "BadForm") (.type "object") = some true)) rfl)
  rw [e_CB] at hm_CB
  have iC_CB : PySem.W.findIn K (.ref (He.ga K "BadForm")) "__init__" = some (some (.ref (iniA K "BadForm"))) := of_decide_eq_true (ex_at c.more (i := 13) (b := decide (PySem.W.findIn K (.ref (He.ga K "BadForm")) "__init__" = some (some (.ref (iniA K "BadForm"))))) rfl)
  rw [e_CB] at iC_CB
  have tC_CB : PySem.W.typeIn K (.ref (iniA K "BadForm")) = some (.type "function") := of_decide_eq_true (ex_at c.more (i := 14) (b := decide (PySem.W.typeIn K (.ref (iniA K "BadForm")) = some (.type "function"))) rfl)
  have nf_CB : PySem.W.findIn K (.ref (He.ga K "BadForm")) "part" = some none := of_decide_eq_true (ex_at c.more (i := 15) (b := decide (PySem.W.findIn K (.ref (He.ga K "BadForm")) "part" = some none)) rfl)
  rw [e_CB] at nf_CB
  have su_CB : PySem.W.ks_superIn K (He.ga K "BadForm") (He.ga K "BadForm") "__init__" = some (some (.builtin "ArithmeticError.__init__")) := of_decide_eq_true (ex_at c.more (i := 16) (b := decide (PySem.W.ks_superIn K (He.ga K "BadForm") (He.ga K "BadForm") "__init__" = some (some (.builtin "ArithmeticError.__init__")))) rfl)
  rw [e_CB] at su_CB
  have sA_CB : PySem.W.subIn K (.ref (He.ga K "BadForm")) (.type "ArithmeticError") = some true := of_decide_eq_true (ex_at c.more (i := 17) (b := decide (PySem.W.subIn K (.ref (He.ga K "BadForm")) (.type "ArithmeticError") = some true)) rfl)
  rw [e_CB] at sA_CB
  have sf_CB : PySem.W.mroIn K (He.ga K "BadForm") (.ref (He.ga K "BadForm")) = some true := of_decide_eq_true (ex_at c.more (i := 18) (b := decide (PySem.W.mroIn K (He.ga K "BadForm") (.ref (He.ga K "BadForm")) = some true)) rfl)
  rw [e_CB] at sf_CB
  have th_CB : PySem.W.nsIn K cStatics "thirdparty.any" = some none := of_decide_eq_true (ex_at c.more (i := 19) (b := decide (PySem.W.nsIn K cStatics "thirdparty.any" = some none)) rfl)
  have ms_CB : PySem.W.nsIn K mainGlobals "super" = some none := of_decide_eq_true (ex_at c.more (i := 20) (b := decide (PySem.W.nsIn K mainGlobals "super" = some none)) rfl)
  obtain ⟨cc_CB, dV_CB, ih_CB⟩ := errD_ok (d := ed_CB) hfile (ini_at c.ini (i := 0) rfl) (ex_at c.more (i := 21) (b := ed_CB.ok K) rfl)
  have EC_CB : PySem.ErrX.ErrC K mg "BadForm" CB := ⟨PySem.W.mg_of X G aC_CB, ei_CB, eo_CB, sa_CB, ga_CB, gg_CB, kC_CB, ex_CB, ty_CB, hd_CB⟩
  have cl_CB := ih_CB.cell
  rw [show He.ga K ed_CB.x = CB from e_CB] at cl_CB
  have IC_CB : PySem.ErrX.IniC l.prog K mg CB (iniA K "BadForm") cc_CB "BadForm.__init__" "part" s_BadForm___init__ dV_CB := ⟨iC_CB, tC_CB, ih_CB.fn, cl_CB, nf_CB, su_CB, sA_CB, sf_CB, th_CB, PySem.W.mg_none_of X G ms_CB, htop⟩
  have XC_CB : ExcC K CB := ⟨ga_CB, gg_CB, ex_CB, hd_CB, ha_CB, hn_CB, ht_CB, hm_CB⟩
  obtain ⟨fd_Form_least, F0_Form_least⟩ := c.t.d.def_ 50 (d := dd_Form_least) rfl
  have F_Form_least : Fun K "least" "Form.least" s_Form_least (He.ma K (He.ga K "Form") "least") fd_Form_least := fun_of F0_Form_least
  have k_Form_least := F_Form_least.kp
  have m0_Form_least : Meth K C "least" (He.ma K (He.ga K "Form") "least") := by
    rw [← e_C]
    exact He.meth_ok (c.t.d.fact 68 (f := .meth "Form" "least") rfl)
  have a_Form_least := m0_Form_least.1
  have i_Form_least := m0_Form_least.2
  have b_Form_least := F_Form_least.binds (ps := ["self"]) fun _ _ _ _ _ _ us hl => match us, hl with | [_], _ => rfl
  obtain ⟨fd_Form_greatest, F0_Form_greatest⟩ := c.t.d.def_ 51 (d := dd_Form_greatest) rfl
  have F_Form_greatest : Fun K "greatest" "Form.greatest" s_Form_greatest (He.ma K (He.ga K "Form") "greatest") fd_Form_greatest := fun_of F0_Form_greatest
  have k_Form_greatest := F_Form_greatest.kp
  have m0_Form_greatest : Meth K C "greatest" (He.ma K (He.ga K "Form") "greatest") := by
    rw [← e_C]
    exact He.meth_ok (c.t.d.fact 69 (f := .meth "Form" "greatest") rfl)
  have a_Form_greatest := m0_Form_greatest.1
  have i_Form_greatest := m0_Form_greatest.2
  have b_Form_greatest := F_Form_greatest.binds (ps := ["self"]) fun _ _ _ _ _ _ us hl => match us, hl with | [_], _ => rfl
  obtain ⟨fd_Form_has, F0_Form_has⟩ := c.t.d.def_ 52 (d := dd_Form_has) rfl
  have F_Form_has : Fun K "has" "Form.has" s_Form_has (He.ma K (He.ga K "Form") "has") fd_Form_has := fun_of F0_Form_has
  have k_Form_has := F_Form_has.kp
  have m0_Form_has : Meth K C "has" (He.ma K (He.ga K "Form") "has") := by
    rw [← e_C]
    exact He.meth_ok (c.t.d.fact 70 (f := .meth "Form" "has") rfl)
  have a_Form_has := m0_Form_has.1
  have i_Form_has := m0_Form_has.2
  have b_Form_has := F_Form_has.binds (ps := ["self", "thing"]) fun _ _ _ _ _ _ us hl => match us, hl with | [_, _], _ => rfl
  obtain ⟨fd_Form___eq__, F0_Form___eq__⟩ := c.t.d.def_ 53 (d := dd_Form___eq__) rfl
  have F_Form___eq__ : Fun K "__eq__" "Form.__eq__" s_Form___eq__ (He.ma K (He.ga K "Form") "__eq__") fd_Form___eq__ := fun_of F0_Form___eq__
  have k_Form___eq__ := F_Form___eq__.kp
  have m0_Form___eq__ : Meth K C "__eq__" (He.ma K (He.ga K "Form") "__eq__") := by
    rw [← e_C]
    exact He.meth_ok (c.t.d.fact 71 (f := .meth "Form" "__eq__") rfl)
  have a_Form___eq__ := m0_Form___eq__.1
  have i_Form___eq__ := m0_Form___eq__.2
  have b_Form___eq__ := F_Form___eq__.binds (ps := ["self", "other"]) fun _ _ _ _ _ _ us hl => match us, hl with | [_, _], _ => rfl
  obtain ⟨fd_Form___str__, F0_Form___str__⟩ := c.t.d.def_ 54 (d := dd_Form___str__) rfl
  have F_Form___str__ : Fun K "__str__" "Form.__str__" s_Form___str__ (He.ma K (He.ga K "Form") "__str__") fd_Form___str__ := fun_of F0_Form___str__
  have k_Form___str__ := F_Form___str__.kp
  have m0_Form___str__ : Meth K C "__str__" (He.ma K (He.ga K "Form") "__str__") := by
    rw [← e_C]
    exact He.meth_ok (c.t.d.fact 72 (f := .meth "Form" "__str__") rfl)
  have a_Form___str__ := m0_Form___str__.1
  have i_Form___str__ := m0_Form___str__.2
  have b_Form___str__ := F_Form___str__.binds (ps := ["self"]) fun _ _ _ _ _ _ us hl => match us, hl with | [_], _ => rfl
  obtain ⟨fd_Net_forms, F0_Net_forms⟩ := c.t.d.def_ 55 (d := dd_Net_forms) rfl
  have F_Net_forms : Fun K "forms" "Net.forms" s_Net_forms (He.ma K (He.ga K "Net") "forms") fd_Net_forms := fun_of F0_Net_forms
  have k_Net_forms := F_Net_forms.kp
  have m0_Net_forms : Meth K CN "forms" (He.ma K (He.ga K "Net") "forms") := by
    rw [← e_CN]
    exact He.meth_ok (c.t.d.fact 73 (f := .meth "Net" "forms") rfl)
  have a_Net_forms := m0_Net_forms.1
  have i_Net_forms := m0_Net_forms.2
  have b_Net_forms := F_Net_forms.binds (ps := ["self"]) fun _ _ _ _ _ _ us hl => match us, hl with | [_], _ => rfl
  obtain ⟨fd_Net_rows, F0_Net_rows⟩ := c.t.d.def_ 56 (d := dd_Net_rows) rfl
  have F_Net_rows : Fun K "rows" "Net.rows" s_Net_rows (He.ma K (He.ga K "Net") "rows") fd_Net_rows := fun_of F0_Net_rows
  have k_Net_rows := F_Net_rows.kp
  have m0_Net_rows : Meth K CN "rows" (He.ma K (He.ga K "Net") "rows") := by
    rw [← e_CN]
    exact He.meth_ok (c.t.d.fact 74 (f := .meth "Net" "rows") rfl)
  have a_Net_rows := m0_Net_rows.1
  have i_Net_rows := m0_Net_rows.2
  have b_Net_rows := F_Net_rows.binds (ps := ["self"]) fun _ _ _ _ _ _ us hl => match us, hl with | [_], _ => rfl
  obtain ⟨fd_Net_holds, F0_Net_holds⟩ := c.t.d.def_ 57 (d := dd_Net_holds) rfl
  have F_Net_holds : Fun K "holds" "Net.holds" s_Net_holds (He.ma K (He.ga K "Net") "holds") fd_Net_holds := fun_of F0_Net_holds
  have k_Net_holds := F_Net_holds.kp
  have m0_Net_holds : Meth K CN "holds" (He.ma K (He.ga K "Net") "holds") := by
    rw [← e_CN]
    exact He.meth_ok (c.t.d.fact 75 (f := .meth "Net" "holds") rfl)
  have a_Net_holds := m0_Net_holds.1
  have i_Net_holds := m0_Net_holds.2
  have b_Net_holds := F_Net_holds.binds (ps := ["self"]) fun _ _ _ _ _ _ us hl => match us, hl with | [_], _ => rfl
  obtain ⟨fd_Net_enters, F0_Net_enters⟩ := c.t.d.def_ 58 (d := dd_Net_enters) rfl
  have F_Net_enters : Fun K "enters" "Net.enters" s_Net_enters (He.ma K (He.ga K "Net") "enters") fd_Net_enters := fun_of F0_Net_enters
  have k_Net_enters := F_Net_enters.kp
  have m0_Net_enters : Meth K CN "enters" (He.ma K (He.ga K "Net") "enters") := by
    rw [← e_CN]
    exact He.meth_ok (c.t.d.fact 76 (f := .meth "Net" "enters") rfl)
  have a_Net_enters := m0_Net_enters.1
  have i_Net_enters := m0_Net_enters.2
  have b_Net_enters := F_Net_enters.binds (ps := ["self"]) fun _ _ _ _ _ _ us hl => match us, hl with | [_], _ => rfl
  obtain ⟨fd_Net_out, F0_Net_out⟩ := c.t.d.def_ 59 (d := dd_Net_out) rfl
  have F_Net_out : Fun K "out" "Net.out" s_Net_out (He.ma K (He.ga K "Net") "out") fd_Net_out := fun_of F0_Net_out
  have k_Net_out := F_Net_out.kp
  have m0_Net_out : Meth K CN "out" (He.ma K (He.ga K "Net") "out") := by
    rw [← e_CN]
    exact He.meth_ok (c.t.d.fact 77 (f := .meth "Net" "out") rfl)
  have a_Net_out := m0_Net_out.1
  have i_Net_out := m0_Net_out.2
  have b_Net_out := F_Net_out.binds (ps := ["self"]) fun _ _ _ _ _ _ us hl => match us, hl with | [_], _ => rfl
  obtain ⟨fd_Net___eq__, F0_Net___eq__⟩ := c.t.d.def_ 60 (d := dd_Net___eq__) rfl
  have F_Net___eq__ : Fun K "__eq__" "Net.__eq__" s_Net___eq__ (He.ma K (He.ga K "Net") "__eq__") fd_Net___eq__ := fun_of F0_Net___eq__
  have k_Net___eq__ := F_Net___eq__.kp
  have m0_Net___eq__ : Meth K CN "__eq__" (He.ma K (He.ga K "Net") "__eq__") := by
    rw [← e_CN]
    exact He.meth_ok (c.t.d.fact 78 (f := .meth "Net" "__eq__") rfl)
  have a_Net___eq__ := m0_Net___eq__.1
  have i_Net___eq__ := m0_Net___eq__.2
  have b_Net___eq__ := F_Net___eq__.binds (ps := ["self", "other"]) fun _ _ _ _ _ _ us hl => match us, hl with | [_, _], _ => rfl
  obtain ⟨fd_Net___init__, F0_Net___init__⟩ := c.t.d.def_ 61 (d := dd_Net___init__) rfl
  have F_Net___init__ : Fun K "__init__" "Net.__init__" s_Net___init__ (He.ma K (He.ga K "Net") "__init__") fd_Net___init__ := fun_of F0_Net___init__
  have k_Net___init__ := F_Net___init__.kp
  have m0_Net___init__ : Meth K CN "__init__" (He.ma K (He.ga K "Net") "__init__") := by
    rw [← e_CN]
    exact He.meth_ok (c.t.d.fact 79 (f := .meth "Net" "__init__") rfl)
  have a_Net___init__ := m0_Net___init__.1
  have i_Net___init__ := m0_Net___init__.2
  have b_Net___init__ := F_Net___init__.binds (ps := ["self", "forms", "enters", "rows", "holds", "out"]) fun _ _ _ _ _ _ us hl => match us, hl with | [_, _, _, _, _, _], _ => rfl
  obtain ⟨fd_Form___init__, F0_Form___init__⟩ := c.t.d.def_ 62 (d := dd_Form___init__) rfl
  have F_Form___init__ : FunD K "__init__" "Form.__init__" (defArgs s_Form___init__) (defBody s_Form___init__) (defScope s_Form___init__) [V.non, V.int 0, V.str "half", V.str "wrap"] [] (He.ma K (He.ga K "Form") "__init__") fd_Form___init__ := F0_Form___init__
  have k_Form___init__ := F_Form___init__.kp
  have m0_Form___init__ : Meth K C "__init__" (He.ma K (He.ga K "Form") "__init__") := by
    rw [← e_C]
    exact He.meth_ok (c.t.d.fact 80 (f := .meth "Form" "__init__") rfl)
  have a_Form___init__ := m0_Form___init__.1
  have i_Form___init__ := m0_Form___init__.2
  obtain ⟨ds_Form4, dv_Form4, b_Form4⟩ := F_Form___init__.binds1 (ps := ["self", "width", "point", "manner", "ends"]) 5 4 (by simp) rfl fun _ _ _ _ _ _ _ us its h1 h2 => match us, its, h1, h2 with | [_, _, _, _, _], [_, _, _, _], _, _ => ⟨_, rfl, rfl⟩
  cases dv_Form4
  obtain ⟨tk_LEAST_WIDTH, gm_LEAST_WIDTH⟩ := He.int_ok X G (c.t.d.fact 81 (f := .int "LEAST_WIDTH" 2) rfl)
  obtain ⟨tk_GREATEST_WIDTH, gm_GREATEST_WIDTH⟩ := He.int_ok X G (c.t.d.fact 82 (f := .int "GREATEST_WIDTH" 64) rfl)
  obtain ⟨tk_GREATEST_POINT, gm_GREATEST_POINT⟩ := He.int_ok X G (c.t.d.fact 83 (f := .int "GREATEST_POINT" 64) rfl)
  obtain ⟨tk_MOST_FORMS, gm_MOST_FORMS⟩ := He.int_ok X G (c.t.d.fact 84 (f := .int "MOST_FORMS" 12) rfl)
  obtain ⟨tk_MOST_ROWS, gm_MOST_ROWS⟩ := He.int_ok X G (c.t.d.fact 85 (f := .int "MOST_ROWS" 60) rfl)
  obtain ⟨tk_MOST_HOLDS, gm_MOST_HOLDS⟩ := He.int_ok X G (c.t.d.fact 86 (f := .int "MOST_HOLDS" 6) rfl)
  obtain ⟨tk_FACTOR_END, gm_FACTOR_END⟩ := He.int_ok X G (c.t.d.fact 87 (f := .int "FACTOR_END" 9223372036854775808) rfl)
  obtain ⟨tk_GREATEST_SHIFT, gm_GREATEST_SHIFT⟩ := He.int_ok X G (c.t.d.fact 88 (f := .int "GREATEST_SHIFT" 64) rfl)
  obtain ⟨tk_GREATEST_ROW_POINT, gm_GREATEST_ROW_POINT⟩ := He.int_ok X G (c.t.d.fact 89 (f := .int "GREATEST_ROW_POINT" 200) rfl)
  have gm_ENDS : mg "ENDS" = some (.ref A_ENDS) := by
    rw [← e_A_ENDS]
    exact He.glo_ok X G (c.t.d.fact 90 (f := .glo "ENDS") rfl)
  have T_ENDS : ∀ H, SqT K H A_ENDS [V.str "wrap", V.str "stop"] := by
    rw [← e_A_ENDS]
    exact fun H => He.tupB_ok (ex_at c.more (i := 22) (b := He.tupB K "ENDS" [.str "wrap", .str "stop"]) rfl) H
  have gm_MANNERS : mg "MANNERS" = some (.ref A_MANNERS) := by
    rw [← e_A_MANNERS]
    exact He.glo_ok X G (c.t.d.fact 91 (f := .glo "MANNERS") rfl)
  obtain ⟨es_MANNERS, dn_MANNERS, KD_MANNERS⟩ := c.t.tab 0 (t := (fun K => He.ga K "MANNERS", ["down", "up", "in", "out", "half", "even", "far"])) rfl
  replace KD_MANNERS : KDict K w A_MANNERS es_MANNERS dn_MANNERS := by
    rw [← e_A_MANNERS]
    exact KD_MANNERS
  have d_MANNERS_down : PySem.W.nsIn K (He.ga K "MANNERS") "down" = some (some (.ref (He.ga K "downward"))) := of_decide_eq_true (ex_at c.more (i := 23) (b := decide (PySem.W.nsIn K (He.ga K "MANNERS") "down" = some (some (.ref (He.ga K "downward"))))) rfl)
  rw [e_A_MANNERS] at d_MANNERS_down
  have d_MANNERS_up : PySem.W.nsIn K (He.ga K "MANNERS") "up" = some (some (.ref (He.ga K "upward"))) := of_decide_eq_true (ex_at c.more (i := 24) (b := decide (PySem.W.nsIn K (He.ga K "MANNERS") "up" = some (some (.ref (He.ga K "upward"))))) rfl)
  rw [e_A_MANNERS] at d_MANNERS_up
  have d_MANNERS_in : PySem.W.nsIn K (He.ga K "MANNERS") "in" = some (some (.ref (He.ga K "inward"))) := of_decide_eq_true (ex_at c.more (i := 25) (b := decide (PySem.W.nsIn K (He.ga K "MANNERS") "in" = some (some (.ref (He.ga K "inward"))))) rfl)
  rw [e_A_MANNERS] at d_MANNERS_in
  have d_MANNERS_out : PySem.W.nsIn K (He.ga K "MANNERS") "out" = some (some (.ref (He.ga K "outward"))) := of_decide_eq_true (ex_at c.more (i := 26) (b := decide (PySem.W.nsIn K (He.ga K "MANNERS") "out" = some (some (.ref (He.ga K "outward"))))) rfl)
  rw [e_A_MANNERS] at d_MANNERS_out
  have d_MANNERS_half : PySem.W.nsIn K (He.ga K "MANNERS") "half" = some (some (.ref (He.ga K "nearest_greater"))) := of_decide_eq_true (ex_at c.more (i := 27) (b := decide (PySem.W.nsIn K (He.ga K "MANNERS") "half" = some (some (.ref (He.ga K "nearest_greater"))))) rfl)
  rw [e_A_MANNERS] at d_MANNERS_half
  have d_MANNERS_even : PySem.W.nsIn K (He.ga K "MANNERS") "even" = some (some (.ref (He.ga K "nearest_even"))) := of_decide_eq_true (ex_at c.more (i := 28) (b := decide (PySem.W.nsIn K (He.ga K "MANNERS") "even" = some (some (.ref (He.ga K "nearest_even"))))) rfl)
  rw [e_A_MANNERS] at d_MANNERS_even
  have d_MANNERS_far : PySem.W.nsIn K (He.ga K "MANNERS") "far" = some (some (.ref (He.ga K "nearest_far"))) := of_decide_eq_true (ex_at c.more (i := 29) (b := decide (PySem.W.nsIn K (He.ga K "MANNERS") "far" = some (some (.ref (He.ga K "nearest_far"))))) rfl)
  rw [e_A_MANNERS] at d_MANNERS_far
  have gm_POINT_RULES : mg "POINT_RULES" = some (.ref A_POINT_RULES) := by
    rw [← e_A_POINT_RULES]
    exact He.glo_ok X G (c.t.d.fact 92 (f := .glo "POINT_RULES") rfl)
  obtain ⟨es_POINT_RULES, dn_POINT_RULES, KD_POINT_RULES⟩ := c.t.tab 1 (t := (fun K => He.ga K "POINT_RULES", ["in", "old", "times", "plus", "less", "move", "keep"])) rfl
  replace KD_POINT_RULES : KDict K w A_POINT_RULES es_POINT_RULES dn_POINT_RULES := by
    rw [← e_A_POINT_RULES]
    exact KD_POINT_RULES
  have d_POINT_RULES_in : PySem.W.nsIn K (He.ga K "POINT_RULES") "in" = some (some (.ref (He.ga K "in_point"))) := of_decide_eq_true (ex_at c.more (i := 30) (b := decide (PySem.W.nsIn K (He.ga K "POINT_RULES") "in" = some (some (.ref (He.ga K "in_point"))))) rfl)
  rw [e_A_POINT_RULES] at d_POINT_RULES_in
  have d_POINT_RULES_old : PySem.W.nsIn K (He.ga K "POINT_RULES") "old" = some (some (.ref (He.ga K "old_point"))) := of_decide_eq_true (ex_at c.more (i := 31) (b := decide (PySem.W.nsIn K (He.ga K "POINT_RULES") "old" = some (some (.ref (He.ga K "old_point"))))) rfl)
  rw [e_A_POINT_RULES] at d_POINT_RULES_old
  have d_POINT_RULES_times : PySem.W.nsIn K (He.ga K "POINT_RULES") "times" = some (some (.ref (He.ga K "times_point"))) := of_decide_eq_true (ex_at c.more (i := 32) (b := decide (PySem.W.nsIn K (He.ga K "POINT_RULES") "times" = some (some (.ref (He.ga K "times_point"))))) rfl)
  rw [e_A_POINT_RULES] at d_POINT_RULES_times
  have d_POINT_RULES_plus : PySem.W.nsIn K (He.ga K "POINT_RULES") "plus" = some (some (.ref (He.ga K "sum_point"))) := of_decide_eq_true (ex_at c.more (i := 33) (b := decide (PySem.W.nsIn K (He.ga K "POINT_RULES") "plus" = some (some (.ref (He.ga K "sum_point"))))) rfl)
  rw [e_A_POINT_RULES] at d_POINT_RULES_plus
  have d_POINT_RULES_less : PySem.W.nsIn K (He.ga K "POINT_RULES") "less" = some (some (.ref (He.ga K "sum_point"))) := of_decide_eq_true (ex_at c.more (i := 34) (b := decide (PySem.W.nsIn K (He.ga K "POINT_RULES") "less" = some (some (.ref (He.ga K "sum_point"))))) rfl)
  rw [e_A_POINT_RULES] at d_POINT_RULES_less
  have d_POINT_RULES_move : PySem.W.nsIn K (He.ga K "POINT_RULES") "move" = some (some (.ref (He.ga K "move_point"))) := of_decide_eq_true (ex_at c.more (i := 35) (b := decide (PySem.W.nsIn K (He.ga K "POINT_RULES") "move" = some (some (.ref (He.ga K "move_point"))))) rfl)
  rw [e_A_POINT_RULES] at d_POINT_RULES_move
  have d_POINT_RULES_keep : PySem.W.nsIn K (He.ga K "POINT_RULES") "keep" = some (some (.ref (He.ga K "keep_point"))) := of_decide_eq_true (ex_at c.more (i := 36) (b := decide (PySem.W.nsIn K (He.ga K "POINT_RULES") "keep" = some (some (.ref (He.ga K "keep_point"))))) rfl)
  rw [e_A_POINT_RULES] at d_POINT_RULES_keep
  have gm_ROW_LENGTHS : mg "ROW_LENGTHS" = some (.ref A_ROW_LENGTHS) := by
    rw [← e_A_ROW_LENGTHS]
    exact He.glo_ok X G (c.t.d.fact 93 (f := .glo "ROW_LENGTHS") rfl)
  obtain ⟨es_ROW_LENGTHS, dn_ROW_LENGTHS, KD_ROW_LENGTHS⟩ := c.t.tab 2 (t := (fun K => He.ga K "ROW_LENGTHS", ["in", "old", "times", "plus", "less", "move", "keep"])) rfl
  replace KD_ROW_LENGTHS : KDict K w A_ROW_LENGTHS es_ROW_LENGTHS dn_ROW_LENGTHS := by
    rw [← e_A_ROW_LENGTHS]
    exact KD_ROW_LENGTHS
  obtain ⟨tk_ROW_LENGTHS_in, d_ROW_LENGTHS_in⟩ : ∃ t, PySem.W.nsIn K A_ROW_LENGTHS "in" = some (some (.int 1 t)) := by
    rw [← e_A_ROW_LENGTHS]
    exact val_int (i := 0) (ex_at c.more (i := 37) (b := He.valsB K (He.ga K "ROW_LENGTHS") [("in", .int 1), ("old", .int 2), ("times", .int 4), ("plus", .int 3), ("less", .int 3), ("move", .int 3), ("keep", .int 3)]) rfl) rfl
  obtain ⟨tk_ROW_LENGTHS_old, d_ROW_LENGTHS_old⟩ : ∃ t, PySem.W.nsIn K A_ROW_LENGTHS "old" = some (some (.int 2 t)) := by
    rw [← e_A_ROW_LENGTHS]
    exact val_int (i := 1) (ex_at c.more (i := 37) (b := He.valsB K (He.ga K "ROW_LENGTHS") [("in", .int 1), ("old", .int 2), ("times", .int 4), ("plus", .int 3), ("less", .int 3), ("move", .int 3), ("keep", .int 3)]) rfl) rfl
  obtain ⟨tk_ROW_LENGTHS_times, d_ROW_LENGTHS_times⟩ : ∃ t, PySem.W.nsIn K A_ROW_LENGTHS "times" = some (some (.int 4 t)) := by
    rw [← e_A_ROW_LENGTHS]
    exact val_int (i := 2) (ex_at c.more (i := 37) (b := He.valsB K (He.ga K "ROW_LENGTHS") [("in", .int 1), ("old", .int 2), ("times", .int 4), ("plus", .int 3), ("less", .int 3), ("move", .int 3), ("keep", .int 3)]) rfl) rfl
  obtain ⟨tk_ROW_LENGTHS_plus, d_ROW_LENGTHS_plus⟩ : ∃ t, PySem.W.nsIn K A_ROW_LENGTHS "plus" = some (some (.int 3 t)) := by
    rw [← e_A_ROW_LENGTHS]
    exact val_int (i := 3) (ex_at c.more (i := 37) (b := He.valsB K (He.ga K "ROW_LENGTHS") [("in", .int 1), ("old", .int 2), ("times", .int 4), ("plus", .int 3), ("less", .int 3), ("move", .int 3), ("keep", .int 3)]) rfl) rfl
  obtain ⟨tk_ROW_LENGTHS_less, d_ROW_LENGTHS_less⟩ : ∃ t, PySem.W.nsIn K A_ROW_LENGTHS "less" = some (some (.int 3 t)) := by
    rw [← e_A_ROW_LENGTHS]
    exact val_int (i := 4) (ex_at c.more (i := 37) (b := He.valsB K (He.ga K "ROW_LENGTHS") [("in", .int 1), ("old", .int 2), ("times", .int 4), ("plus", .int 3), ("less", .int 3), ("move", .int 3), ("keep", .int 3)]) rfl) rfl
  obtain ⟨tk_ROW_LENGTHS_move, d_ROW_LENGTHS_move⟩ : ∃ t, PySem.W.nsIn K A_ROW_LENGTHS "move" = some (some (.int 3 t)) := by
    rw [← e_A_ROW_LENGTHS]
    exact val_int (i := 5) (ex_at c.more (i := 37) (b := He.valsB K (He.ga K "ROW_LENGTHS") [("in", .int 1), ("old", .int 2), ("times", .int 4), ("plus", .int 3), ("less", .int 3), ("move", .int 3), ("keep", .int 3)]) rfl) rfl
  obtain ⟨tk_ROW_LENGTHS_keep, d_ROW_LENGTHS_keep⟩ : ∃ t, PySem.W.nsIn K A_ROW_LENGTHS "keep" = some (some (.int 3 t)) := by
    rw [← e_A_ROW_LENGTHS]
    exact val_int (i := 6) (ex_at c.more (i := 37) (b := He.valsB K (He.ga K "ROW_LENGTHS") [("in", .int 1), ("old", .int 2), ("times", .int 4), ("plus", .int 3), ("less", .int 3), ("move", .int 3), ("keep", .int 3)]) rfl) rfl
  have fx_ha : PySem.W.findIn K (.ref (He.ga K "Form")) "__class__" = some (some (.builtin "object.__class__")) := of_decide_eq_true (ex_at c.more (i := 38) (b := decide (PySem.W.findIn K (.ref (He.ga K "Form")) "__class__" = some (some (.builtin "object.__class__")))) rfl)
  rw [e_C] at fx_ha
  have fx_hn : PySem.W.specialIn K (.builtin "object.__class__") "__get__" = some (some (.builtin "getset_descriptor.__get__")) := of_decide_eq_true (ex_at c.more (i := 39) (b := decide (PySem.W.specialIn K (.builtin "object.__class__") "__get__" = some (some (.builtin "getset_descriptor.__get__")))) rfl)
  have fx_ht : PySem.W.takesIn K (.builtin "object.__class__") = some true := of_decide_eq_true (ex_at c.more (i := 40) (b := decide (PySem.W.takesIn K (.builtin "object.__class__") = some true)) rfl)
  have fx_hm : PySem.W.mroIn K (He.ga K "Form") (.type "object") = some true := of_decide_eq_true (ex_at c.more (i := 41) (b := decide (PySem.W.mroIn K (He.ga K "Form") (.type "object") = some true)) rfl)
  rw [e_C] at fx_hm
  have fx_kC : PySem.W.kitOne K (.ref (He.ga K "Form")) (.ref (He.ga K "Form")) = some true := of_decide_eq_true (ex_at c.more (i := 42) (b := decide (PySem.W.kitOne K (.ref (He.ga K "Form")) (.ref (He.ga K "Form")) = some true)) rfl)
  rw [e_C] at fx_kC
  have fy_ha : PySem.W.findIn K (.ref (He.ga K "Net")) "__class__" = some (some (.builtin "object.__class__")) := of_decide_eq_true (ex_at c.more (i := 43) (b := decide (PySem.W.findIn K (.ref (He.ga K "Net")) "__class__" = some (some (.builtin "object.__class__")))) rfl)
  rw [e_CN] at fy_ha
  have fy_hm : PySem.W.mroIn K (He.ga K "Net") (.type "object") = some true := of_decide_eq_true (ex_at c.more (i := 44) (b := decide (PySem.W.mroIn K (He.ga K "Net") (.type "object") = some true)) rfl)
  rw [e_CN] at fy_hm
  have fy_kC : PySem.W.kitOne K (.ref (He.ga K "Net")) (.ref (He.ga K "Net")) = some true := of_decide_eq_true (ex_at c.more (i := 45) (b := decide (PySem.W.kitOne K (.ref (He.ga K "Net")) (.ref (He.ga K "Net")) = some true)) rfl)
  rw [e_CN] at fy_kC
  have fm_C : PySem.W.findIn K (.ref (He.ga K "Form")) "__format__" = some (some (.builtin "object.__format__")) := of_decide_eq_true (ex_at c.more (i := 46) (b := decide (PySem.W.findIn K (.ref (He.ga K "Form")) "__format__" = some (some (.builtin "object.__format__")))) rfl)
  rw [e_C] at fm_C
  have xm_CB : PySem.W.exmOne K (.ref (He.ga K "BadForm")) (.ref (He.ga K "BadForm")) = some true := of_decide_eq_true (ex_at c.more (i := 47) (b := decide (PySem.W.exmOne K (.ref (He.ga K "BadForm")) (.ref (He.ga K "BadForm")) = some true)) rfl)
  rw [e_CB] at xm_CB
  obtain ⟨tk_MOST_FIGURES, gm_MOST_FIGURES⟩ := He.int_ok X G (c.t.d.fact 94 (f := .int "MOST_FIGURES" 400) rfl)
  obtain ⟨tk_FIGURES, gm_FIGURES⟩ := He.str_ok X G (c.t.d.fact 95 (f := .str "FIGURES" "0123456789") rfl)
  obtain ⟨tk_FREE, gm_FREE⟩ := He.str_ok X G (c.t.d.fact 96 (f := .str "FREE" "free") rfl)
  have gm_OTHER_LENGTHS : mg "OTHER_LENGTHS" = some (.ref A_OTHER_LENGTHS) := by
    rw [← e_A_OTHER_LENGTHS]
    exact He.glo_ok X G (c.t.d.fact 97 (f := .glo "OTHER_LENGTHS") rfl)
  obtain ⟨es_OTHER_LENGTHS, dn_OTHER_LENGTHS, KD_OTHER_LENGTHS⟩ := c.t.tab 3 (t := (fun K => He.ga K "OTHER_LENGTHS", ["enters", "hold", "out"])) rfl
  replace KD_OTHER_LENGTHS : KDict K w A_OTHER_LENGTHS es_OTHER_LENGTHS dn_OTHER_LENGTHS := by
    rw [← e_A_OTHER_LENGTHS]
    exact KD_OTHER_LENGTHS
  obtain ⟨tk_OTHER_LENGTHS_enters, d_OTHER_LENGTHS_enters⟩ : ∃ t, PySem.W.nsIn K A_OTHER_LENGTHS "enters" = some (some (.int 1 t)) := by
    rw [← e_A_OTHER_LENGTHS]
    exact val_int (i := 0) (ex_at c.more (i := 48) (b := He.valsB K (He.ga K "OTHER_LENGTHS") [("enters", .int 1), ("hold", .int 3), ("out", .int 1)]) rfl) rfl
  obtain ⟨tk_OTHER_LENGTHS_hold, d_OTHER_LENGTHS_hold⟩ : ∃ t, PySem.W.nsIn K A_OTHER_LENGTHS "hold" = some (some (.int 3 t)) := by
    rw [← e_A_OTHER_LENGTHS]
    exact val_int (i := 1) (ex_at c.more (i := 48) (b := He.valsB K (He.ga K "OTHER_LENGTHS") [("enters", .int 1), ("hold", .int 3), ("out", .int 1)]) rfl) rfl
  obtain ⟨tk_OTHER_LENGTHS_out, d_OTHER_LENGTHS_out⟩ : ∃ t, PySem.W.nsIn K A_OTHER_LENGTHS "out" = some (some (.int 1 t)) := by
    rw [← e_A_OTHER_LENGTHS]
    exact val_int (i := 2) (ex_at c.more (i := 48) (b := He.valsB K (He.ga K "OTHER_LENGTHS") [("enters", .int 1), ("hold", .int 3), ("out", .int 1)]) rfl) rfl
  have gm_PARTS_AHEAD : mg "PARTS_AHEAD" = some (.ref A_PARTS_AHEAD) := by
    rw [← e_A_PARTS_AHEAD]
    exact He.glo_ok X G (c.t.d.fact 98 (f := .glo "PARTS_AHEAD") rfl)
  obtain ⟨es_PARTS_AHEAD, dn_PARTS_AHEAD, KD_PARTS_AHEAD⟩ := c.t.tab 4 (t := (fun K => He.ga K "PARTS_AHEAD", ["form", "enters", "row", "hold", "out"])) rfl
  replace KD_PARTS_AHEAD : KDict K w A_PARTS_AHEAD es_PARTS_AHEAD dn_PARTS_AHEAD := by
    rw [← e_A_PARTS_AHEAD]
    exact KD_PARTS_AHEAD
  have ln_enters : PySem.W.nsIn K (He.ga K "ROW_LENGTHS") "enters" = some none := of_decide_eq_true (ex_at c.more (i := 49) (b := decide (PySem.W.nsIn K (He.ga K "ROW_LENGTHS") "enters" = some none)) rfl)
  rw [e_A_ROW_LENGTHS] at ln_enters
  have ln_hold : PySem.W.nsIn K (He.ga K "ROW_LENGTHS") "hold" = some none := of_decide_eq_true (ex_at c.more (i := 50) (b := decide (PySem.W.nsIn K (He.ga K "ROW_LENGTHS") "hold" = some none)) rfl)
  rw [e_A_ROW_LENGTHS] at ln_hold
  have ln_out : PySem.W.nsIn K (He.ga K "ROW_LENGTHS") "out" = some none := of_decide_eq_true (ex_at c.more (i := 51) (b := decide (PySem.W.nsIn K (He.ga K "ROW_LENGTHS") "out" = some none)) rfl)
  rw [e_A_ROW_LENGTHS] at ln_out
  have ky_PARTS_AHEAD := keyB_at KD_PARTS_AHEAD e_A_PARTS_AHEAD (ex_at c.more (i := 52) (b := keyB K "PARTS_AHEAD" ["form", "enters", "row", "hold", "out"]) rfl)
  have ky_MANNERS := keyB_at KD_MANNERS e_A_MANNERS (ex_at c.more (i := 53) (b := keyB K "MANNERS" ["down", "up", "in", "out", "half", "even", "far"]) rfl)
  have pv_form := pvB_ok e_A_PARTS_AHEAD (ex_at c.more (i := 54) (b := pvB K "PARTS_AHEAD" "form" [.non, .str "form"]) rfl)
  have pv_enters := pvB_ok e_A_PARTS_AHEAD (ex_at c.more (i := 55) (b := pvB K "PARTS_AHEAD" "enters" [.non, .str "form"]) rfl)
  have pv_row := pvB_ok e_A_PARTS_AHEAD (ex_at c.more (i := 56) (b := pvB K "PARTS_AHEAD" "row" [.str "enters", .str "row"]) rfl)
  have pv_hold := pvB_ok e_A_PARTS_AHEAD (ex_at c.more (i := 57) (b := pvB K "PARTS_AHEAD" "hold" [.str "enters", .str "row", .str "hold"]) rfl)
  have pv_out := pvB_ok e_A_PARTS_AHEAD (ex_at c.more (i := 58) (b := pvB K "PARTS_AHEAD" "out" [.str "enters", .str "row", .str "hold"]) rfl)
  have zf_isinstance : mg "isinstance" = none := He.free_ok X G (c.t.d.fact 99 (f := .free "isinstance") rfl)
  have zf_int : mg "int" = none := He.free_ok X G (c.t.d.fact 100 (f := .free "int") rfl)
  have zf_bool : mg "bool" = none := He.free_ok X G (c.t.d.fact 101 (f := .free "bool") rfl)
  have zf_str : mg "str" = none := He.free_ok X G (c.t.d.fact 102 (f := .free "str") rfl)
  have zf_abs : mg "abs" = none := He.free_ok X G (c.t.d.fact 103 (f := .free "abs") rfl)
  have zf_len : mg "len" = none := He.free_ok X G (c.t.d.fact 104 (f := .free "len") rfl)
  have zf_max : mg "max" = none := He.free_ok X G (c.t.d.fact 105 (f := .free "max") rfl)
  have zf_tuple : mg "tuple" = none := He.free_ok X G (c.t.d.fact 106 (f := .free "tuple") rfl)
  have zf_list : mg "list" = none := He.free_ok X G (c.t.d.fact 107 (f := .free "list") rfl)
  have zf_enumerate : mg "enumerate" = none := He.free_ok X G (c.t.d.fact 108 (f := .free "enumerate") rfl)
  have zf_all : mg "all" = none := He.free_ok X G (c.t.d.fact 109 (f := .free "all") rfl)
  have zf_range : mg "range" = none := He.free_ok X G (c.t.d.fact 110 (f := .free "range") rfl)
  have zf_min : mg "min" = none := He.free_ok X G (c.t.d.fact 111 (f := .free "min") rfl)
  have kb_show_net := Fun.kbn (n := 0) (ks := ["net"]) (ps := ["net"]) F_show_net (g := fun us ws => us ++ ws) (gV := fun vs zs => vs ++ zs) (fun r s => Vals.append r s) fun _ _ _ _ _ _ us ws h1 h2 => match us, ws, h1, h2 with | [], [_], _, _ => rfl
  have kb_read_net := Fun.kbn (n := 0) (ks := ["text"]) (ps := ["text"]) F_read_net (g := fun us ws => us ++ ws) (gV := fun vs zs => vs ++ zs) (fun r s => Vals.append r s) fun _ _ _ _ _ _ us ws h1 h2 => match us, ws, h1, h2 with | [], [_], _, _ => rfl
  have z : Zs mg := ⟨zf_isinstance, zf_int, zf_bool, zf_str, zf_abs, zf_len, zf_max, zf_tuple, zf_list, zf_enumerate, zf_all, zf_range, zf_min⟩
  have e := hfa.symm.trans (PySem.W.mg_of X G a_law)
  cases e
  have FL_law : FunD K "law" "law" (defArgs s_law) (defBody s_law) (defScope s_law) [] [] (He.ga K "law") fd_law := F0_law
  have bl := FunD.bindsA (ps := ["_law_script"]) FL_law fun _ _ _ _ _ _ us hl => match us, hl with | [_], _ => rfl
  refine ⟨_, fun s v => bl s [v] rfl, fun base _ _ => ?_⟩
  have c_is_whole : Cal l.prog w K mg base 1 "is_whole" ["thing"] _ := ⟨_, _, PySem.W.mg_of X G a_is_whole, k_is_whole, b_is_whole, ok_is_whole (k := 0) F_is_whole z⟩
  have c_downward : Cal l.prog w K mg base 1 "downward" ["top", "bottom"] _ := ⟨_, _, PySem.W.mg_of X G a_downward, k_downward, b_downward, ok_downward (k := 0) F_downward⟩
  have c_upward : Cal l.prog w K mg base 1 "upward" ["top", "bottom"] _ := ⟨_, _, PySem.W.mg_of X G a_upward, k_upward, b_upward, ok_upward (k := 0) F_upward⟩
  have c_nearest_greater : Cal l.prog w K mg base 1 "nearest_greater" ["top", "bottom"] _ := ⟨_, _, PySem.W.mg_of X G a_nearest_greater, k_nearest_greater, b_nearest_greater, ok_nearest_greater (k := 0) F_nearest_greater⟩
  have MM : Mans l.prog w K mg base A_MANNERS es_MANNERS dn_MANNERS := ⟨gm_MANNERS, KD_MANNERS, fun m => match m with
    | .down => ⟨_, _, d_MANNERS_down, k_downward, b_downward, ok_downward (k := 1) F_downward⟩
    | .up => ⟨_, _, d_MANNERS_up, k_upward, b_upward, ok_upward (k := 1) F_upward⟩
    | .inn => ⟨_, _, d_MANNERS_in, k_inward, b_inward, ok_inward F_inward c_downward c_upward⟩
    | .out => ⟨_, _, d_MANNERS_out, k_outward, b_outward, ok_outward F_outward c_downward c_upward⟩
    | .half => ⟨_, _, d_MANNERS_half, k_nearest_greater, b_nearest_greater, ok_nearest_greater (k := 1) F_nearest_greater⟩
    | .even => ⟨_, _, d_MANNERS_even, k_nearest_even, b_nearest_even, ok_nearest_even F_nearest_even c_nearest_greater⟩
    | .far => ⟨_, _, d_MANNERS_far, k_nearest_far, b_nearest_far, ok_nearest_far F_nearest_far c_nearest_greater⟩⟩
  have c_is_manner : Cal l.prog w K mg base 1 "is_manner" ["thing"] _ := ⟨_, _, PySem.W.mg_of X G a_is_manner, k_is_manner, b_is_manner, ok_is_manner (k := 0) MM F_is_manner z⟩
  have Z : FCst K mg A_ENDS := ⟨⟨_, gm_LEAST_WIDTH⟩, ⟨_, gm_GREATEST_WIDTH⟩, ⟨_, gm_GREATEST_POINT⟩, gm_ENDS, T_ENDS⟩
  have NC : NCst mg := ⟨⟨_, gm_FACTOR_END⟩, ⟨_, gm_GREATEST_SHIFT⟩, ⟨_, gm_GREATEST_ROW_POINT⟩, ⟨_, gm_MOST_FORMS⟩, ⟨_, gm_MOST_ROWS⟩, ⟨_, gm_MOST_HOLDS⟩⟩
  have c_is_width : Cal l.prog w K mg base 2 "is_width" ["thing"] _ := ⟨_, _, PySem.W.mg_of X G a_is_width, k_is_width, b_is_width, ok_is_width Z F_is_width c_is_whole⟩
  have c_is_point : Cal l.prog w K mg base 2 "is_point" ["thing"] _ := ⟨_, _, PySem.W.mg_of X G a_is_point, k_is_point, b_is_point, ok_is_point Z F_is_point z c_is_whole⟩
  have c_is_ends : Cal l.prog w K mg base 1 "is_ends" ["thing"] _ := ⟨_, _, PySem.W.mg_of X G a_is_ends, k_is_ends, b_is_ends, ok_is_ends (k := 0) Z F_is_ends z⟩
  have T : FTxt K mg C := ⟨⟨pg_C, hd_C, po_C, sa_C⟩, n_C_width, n_C_point, n_C_manner, n_C_ends⟩
  have TN : NTxt K mg CN := ⟨⟨pg_CN, hd_CN, po_CN, sa_CN⟩, n_CN_form_list, n_CN_enters_at, n_CN_row_list, n_CN_hold_list, n_CN_out_at, n_CN_point_list⟩
  have IC : IsC K mg C := ⟨PySem.W.mg_of X G aC_C, fx_ha, fx_hn, fx_ht, fx_hm, fx_kC⟩
  have c_Form_4 : CalC l.prog w K mg base 3 "Form" C ["self", "width", "point", "manner", "ends"] [] _ := ⟨_, _, _, ⟨mk_C, a_Form___init__, i_Form___init__, kc_C⟩, PySem.W.mg_of X G aC_C, .nil, b_Form4, ok_Form___init__ T F_Form___init__ c_is_width c_is_point c_is_manner c_is_ends⟩
  have m_least : CalM l.prog w K mg base 1 C "least" ["self"] _ := ⟨_, _, ⟨a_Form_least, i_Form_least, k_Form_least⟩, b_Form_least, ok_Form_least (k := 0) T F_Form_least⟩
  have m_greatest : CalM l.prog w K mg base 1 C "greatest" ["self"] _ := ⟨_, _, ⟨a_Form_greatest, i_Form_greatest, k_Form_greatest⟩, b_Form_greatest, ok_Form_greatest (k := 0) T F_Form_greatest⟩
  have m_has : CalM l.prog w K mg base 2 C "has" ["self", "thing"] _ := ⟨_, _, ⟨a_Form_has, i_Form_has, k_Form_has⟩, b_Form_has, ok_Form_has T F_Form_has c_is_whole m_least m_greatest⟩
  have c_is_place : Cal l.prog w K mg base 2 "is_place" ["thing", "many"] _ := ⟨_, _, PySem.W.mg_of X G a_is_place, k_is_place, b_is_place, ok_is_place F_is_place c_is_whole⟩
  have c_is_factor : Cal l.prog w K mg base 2 "is_factor" ["thing"] _ := ⟨_, _, PySem.W.mg_of X G a_is_factor, k_is_factor, b_is_factor, ok_is_factor NC F_is_factor z c_is_whole⟩
  have RU : Ruls l.prog w K mg base A_POINT_RULES es_POINT_RULES dn_POINT_RULES := ⟨gm_POINT_RULES, KD_POINT_RULES, fun k => match k with
    | .inn => ⟨_, _, d_POINT_RULES_in, k_in_point, b_in_point, ok_in_point F_in_point⟩
    | .old => ⟨_, _, d_POINT_RULES_old, k_old_point, b_old_point, ok_old_point z c_is_place F_old_point⟩
    | .times => ⟨_, _, d_POINT_RULES_times, k_times_point, b_times_point, ok_times_point NC z c_is_factor c_is_place F_times_point⟩
    | .plus => ⟨_, _, d_POINT_RULES_plus, k_sum_point, b_sum_point, ok_sum_point_plus z c_is_place F_sum_point⟩
    | .less => ⟨_, _, d_POINT_RULES_less, k_sum_point, b_sum_point, ok_sum_point_less z c_is_place F_sum_point⟩
    | .move => ⟨_, _, d_POINT_RULES_move, k_move_point, b_move_point, ok_move_point NC z c_is_whole c_is_place F_move_point⟩
    | .keep => ⟨_, _, d_POINT_RULES_keep, k_keep_point, b_keep_point, ok_keep_point z c_is_place F_keep_point⟩⟩
  have LE : Lens w K mg A_ROW_LENGTHS es_ROW_LENGTHS dn_ROW_LENGTHS := ⟨gm_ROW_LENGTHS, KD_ROW_LENGTHS, fun k => match k with
    | .inn => ⟨_, d_ROW_LENGTHS_in⟩
    | .old => ⟨_, d_ROW_LENGTHS_old⟩
    | .times => ⟨_, d_ROW_LENGTHS_times⟩
    | .plus => ⟨_, d_ROW_LENGTHS_plus⟩
    | .less => ⟨_, d_ROW_LENGTHS_less⟩
    | .move => ⟨_, d_ROW_LENGTHS_move⟩
    | .keep => ⟨_, d_ROW_LENGTHS_keep⟩⟩
  have c_is_written_as_row : Cal l.prog w K mg base 1 "is_written_as_row" ["thing"] _ := ⟨_, _, PySem.W.mg_of X G a_is_written_as_row, k_is_written_as_row, b_is_written_as_row, ok_is_written_as_row (k := 0) LE F_is_written_as_row z⟩
  have c_row_point : Cal l.prog w K mg base 4 "row_point" ["row", "points", "given"] _ := ⟨_, _, PySem.W.mg_of X G a_row_point, k_row_point, b_row_point, ok_row_point RU NC F_row_point z c_is_written_as_row⟩
  have c_check_length : Cal l.prog w K mg base 1 "check_length" ["thing", "part", "least", "most"] _ := ⟨_, _, PySem.W.mg_of X G a_check_length, k_check_length, b_check_length, ok_check_length (k := 0) F_check_length z⟩
  have c_check_forms : Cal l.prog w K mg base 2 "check_forms" ["forms"] _ := ⟨_, _, PySem.W.mg_of X G a_check_forms, k_check_forms, b_check_forms, ok_check_forms T IC NC F_check_forms z c_check_length⟩
  have c_is_hold : Cal l.prog w K mg base 3 "is_hold" ["thing", "forms"] _ := ⟨_, _, PySem.W.mg_of X G a_is_hold, k_is_hold, b_is_hold, ok_is_hold T F_is_hold z c_is_place m_has⟩
  have c_check_holds : Cal l.prog w K mg base 4 "check_holds" ["holds", "forms"] _ := ⟨_, _, PySem.W.mg_of X G a_check_holds, k_check_holds, b_check_holds, ok_check_holds NC F_check_holds z c_check_length c_is_hold⟩
  have c_checked_points : Cal l.prog w K mg base 5 "checked_points" ["rows", "given"] _ := ⟨_, _, PySem.W.mg_of X G a_checked_points, k_checked_points, b_checked_points, ok_checked_points NC F_checked_points z c_check_length c_row_point⟩
  have c_check_links : Cal l.prog w K mg base 3 "check_links" ["holds", "rows"] _ := ⟨_, _, PySem.W.mg_of X G a_check_links, k_check_links, b_check_links, ok_check_links F_check_links z c_is_place⟩
  have c_Net_5 : CalC l.prog w K mg base 6 "Net" CN ["self", "forms", "enters", "rows", "holds", "out"] [] _ := ⟨_, _, _, ⟨mk_CN, a_Net___init__, i_Net___init__, kc_CN⟩, PySem.W.mg_of X G aC_CN, .nil, b_Net___init__, ok_Net___init__ T TN F_Net___init__ z c_check_forms c_is_place c_check_holds c_checked_points c_check_links⟩
  have n_forms : CalM l.prog w K mg base 1 CN "forms" ["self"] _ := ⟨_, _, ⟨a_Net_forms, i_Net_forms, k_Net_forms⟩, b_Net_forms, ok_Net_forms (C := C) (k := 0) TN F_Net_forms z⟩
  have n_rows : CalM l.prog w K mg base 1 CN "rows" ["self"] _ := ⟨_, _, ⟨a_Net_rows, i_Net_rows, k_Net_rows⟩, b_Net_rows, ok_Net_rows (C := C) (k := 0) TN F_Net_rows z⟩
  have n_holds : CalM l.prog w K mg base 1 CN "holds" ["self"] _ := ⟨_, _, ⟨a_Net_holds, i_Net_holds, k_Net_holds⟩, b_Net_holds, ok_Net_holds (C := C) (k := 0) TN F_Net_holds z⟩
  have n_enters : CalM l.prog w K mg base 1 CN "enters" ["self"] _ := ⟨_, _, ⟨a_Net_enters, i_Net_enters, k_Net_enters⟩, b_Net_enters, ok_Net_enters (C := C) (k := 0) TN F_Net_enters⟩
  have n_out : CalM l.prog w K mg base 1 CN "out" ["self"] _ := ⟨_, _, ⟨a_Net_out, i_Net_out, k_Net_out⟩, b_Net_out, ok_Net_out (C := C) (k := 0) TN F_Net_out⟩
  have IN : IsN K mg CN := ⟨PySem.W.mg_of X G aC_CN, fy_ha, fx_hn, fx_ht, fy_hm, fy_kC⟩
  have okE := ok_Form___eq__ (P := l.prog) (w := w) (base := base) (k := 0) T IC F_Form___eq__ z
  have OQ : OwnQ K C _ _ := ⟨a_Form___eq__, i_Form___eq__, b_Form___eq__⟩
  have okN := ok_Net___eq__ (P := l.prog) (w := w) (base := base) T IC TN IN okE OQ F_Net___eq__ z
  have ON : OwnQ K CN _ _ := ⟨a_Net___eq__, i_Net___eq__, b_Net___eq__⟩
  have NM : NoMan K A_MANNERS := noman KD_MANNERS ky_MANNERS
  have Z2 : FCst2 K mg A_ENDS := ⟨⟨_, gm_LEAST_WIDTH⟩, ⟨_, gm_GREATEST_WIDTH⟩, ⟨_, gm_GREATEST_POINT⟩, gm_ENDS, T_ENDS⟩
  have d_is_width : Cal l.prog w K mg base 2 "is_width" ["thing"] _ := ⟨_, _, PySem.W.mg_of X G a_is_width, k_is_width, b_is_width, ok_is_widthB Z2 F_is_width c_is_whole⟩
  have d_is_point : Cal l.prog w K mg base 2 "is_point" ["thing"] _ := ⟨_, _, PySem.W.mg_of X G a_is_point, k_is_point, b_is_point, ok_is_pointB Z2 F_is_point z c_is_whole⟩
  have d_is_ends : Cal l.prog w K mg base 1 "is_ends" ["thing"] _ := ⟨_, _, PySem.W.mg_of X G a_is_ends, k_is_ends, b_is_ends, ok_is_endsB (k := 0) Z2 F_is_ends z⟩
  have IB := bad_ini2 (w := w) ih_CB.dfl EC_CB IC_CB
  have okF := ok_Form___init__B (base := base) (P := l.prog) (w := w) T EC_CB IB F_Form___init__ d_is_width d_is_point c_is_manner d_is_ends
  have c_Form : CalCX l.prog w K mg base 3 "Form" C ["self", "width", "point", "manner", "ends"] [] _ := ⟨_, _, _, ⟨mk_C, a_Form___init__, i_Form___init__, kc_C⟩, PySem.W.mg_of X G aC_C, .nil, b_Form4, okF⟩
  have okS := ok_Form___str__ (P := l.prog) (w := w) (base := base) (mg := mg) (k := 0) T F_Form___str__
  have MS : OwnM K C "__str__" _ := ⟨a_Form___str__, i_Form___str__⟩
  have NF : FmtO K C := ⟨fm_C, fx_hm⟩
  have c_whole_of : Cal l.prog w K mg base 1 "whole_of" ["text"] _ := ⟨_, _, PySem.W.mg_of X G a_whole_of, k_whole_of, b_whole_of, ok_whole_of (k := 0) F_whole_of z gm_FIGURES gm_MOST_FIGURES⟩
  have c_wholes_of : Cal l.prog w K mg base 2 "wholes_of" ["texts"] _ := ⟨_, _, PySem.W.mg_of X G a_wholes_of, k_wholes_of, b_wholes_of, ok_wholes_of F_wholes_of c_whole_of⟩
  have c_form_of : Cal l.prog w K mg base 5 "form_of" ["text"] _ := ⟨_, _, PySem.W.mg_of X G a_form_of, k_form_of, b_form_of, ok_form_of NM (PySem.W.mg_of X G aC_CB) xm_CB gm_FREE F_form_of z c_whole_of c_Form⟩
  have c_check_text : Cal l.prog w K mg base 1 "check_text" ["thing"] _ := ⟨_, _, PySem.W.mg_of X G a_check_text, k_check_text, b_check_text, ok_check_text (k := 0) F_check_text z⟩
  have c_show_row : Cal l.prog w K mg base 1 "show_row" ["row"] _ := ⟨_, _, PySem.W.mg_of X G a_show_row, k_show_row, b_show_row, ok_show_row (k := 0) F_show_row⟩
  have c_show_net : Cal l.prog w K mg base 3 "show_net" ["net"] _ := ⟨_, _, PySem.W.mg_of X G a_show_net, k_show_net, b_show_net, ok_show_net TN F_show_net okS b_Form___str__ MS NF c_show_row n_forms n_rows n_holds n_enters n_out⟩
  have c_show_net_k : CalK l.prog w K mg base 3 "show_net" ["net"] 0 ["net"] _ _ := ⟨_, _, _, PySem.W.mg_of X G a_show_net, k_show_net, kb_show_net, ok_show_net TN F_show_net okS b_Form___str__ MS NF c_show_row n_forms n_rows n_holds n_enters n_out⟩
  have LN : LensN K A_ROW_LENGTHS := fun k => match k with
    | .enter => ln_enters
    | .hold => ln_hold
    | .out => ln_out
  have OT : Oths w K mg A_OTHER_LENGTHS es_OTHER_LENGTHS dn_OTHER_LENGTHS := ⟨gm_OTHER_LENGTHS, KD_OTHER_LENGTHS, fun k => match k with
    | .enter => ⟨_, d_OTHER_LENGTHS_enters⟩
    | .hold => ⟨_, d_OTHER_LENGTHS_hold⟩
    | .out => ⟨_, d_OTHER_LENGTHS_out⟩⟩
  have PT : Prts w K mg A_PARTS_AHEAD es_PARTS_AHEAD dn_PARTS_AHEAD := ⟨gm_PARTS_AHEAD, kkeys KD_PARTS_AHEAD ky_PARTS_AHEAD, fun p => match p with
    | .form => pv_form
    | .enters => pv_enters
    | .row => pv_row
    | .hold => pv_hold
    | .out => pv_out⟩
  have c_part_of_line : Cal l.prog w K mg base 6 "part_of_line" ["line"] _ := ⟨_, _, PySem.W.mg_of X G a_part_of_line, k_part_of_line, b_part_of_line, ok_part_of_line (C := C) LE LN OT F_part_of_line z c_form_of c_wholes_of⟩
  have c_parts_of_text : Cal l.prog w K mg base 7 "parts_of_text" ["text"] _ := ⟨_, _, PySem.W.mg_of X G a_parts_of_text, k_parts_of_text, b_parts_of_text, ok_parts_of_text PT F_parts_of_text z c_part_of_line⟩
  have c_read_net : Cal l.prog w K mg base 8 "read_net" ["text"] _ := ⟨_, _, PySem.W.mg_of X G a_read_net, k_read_net, b_read_net, ok_read_net F_read_net c_check_text c_parts_of_text c_Net_5⟩
  have c_read_net_k : CalK l.prog w K mg base 8 "read_net" ["text"] 0 ["text"] _ _ := ⟨_, _, _, PySem.W.mg_of X G a_read_net, k_read_net, kb_read_net, ok_read_net F_read_net c_check_text c_parts_of_text c_Net_5⟩
  have c__law_cell_at : Cal l.prog w K mg base 1 "_law_cell_at" ["_law_script", "_law_k"] _ := ⟨_, _, PySem.W.mg_of X G a__law_cell_at, k__law_cell_at, b__law_cell_at, ok_cell (k := 0) F__law_cell_at z.len⟩
  have c__law_well : Cal l.prog w K mg base 1 "_law_well" ["_law_cell"] _ := ⟨_, _, PySem.W.mg_of X G a__law_well, k__law_well, b__law_well, ok_well (k := 0) F__law_well z.int⟩
  have c__law_draw : Cal l.prog w K mg base 1 "_law_draw" ["_law_well_here", "_law_many"] _ := ⟨_, _, PySem.W.mg_of X G a__law_draw, k__law_draw, b__law_draw, ok_draw (k := 0) F__law_draw⟩
  have c__law_form : Cal l.prog w K mg base 2 "_law_form" ["_law_well_here", "_law_free", "_law_reach"] _ := ⟨_, _, PySem.W.mg_of X G a__law_form, k__law_form, b__law_form, ok__law_form F__law_form c__law_draw⟩
  have c__law_word : Cal l.prog w K mg base 2 "_law_word" ["_law_well_here", "_law_form_here"] _ := ⟨_, _, PySem.W.mg_of X G a__law_word, k__law_word, b__law_word, ok__law_word F__law_word c__law_draw⟩
  have c__law_row : Cal l.prog w K mg base 2 "_law_row" ["_law_well_here", "_law_count", "_law_at", "_law_free", "_law_reach", "_law_held"] _ := ⟨_, _, PySem.W.mg_of X G a__law_row, k__law_row, b__law_row, ok__law_row F__law_row c__law_draw⟩
  have c__law_begin : Cal l.prog w K mg base 2 "_law_begin" ["_law_well_here", "_law_held"] _ := ⟨_, _, PySem.W.mg_of X G a__law_begin, k__law_begin, b__law_begin, ok__law_begin F__law_begin z c__law_draw⟩
  have c__law_mixed : Cal l.prog w K mg base 2 "_law_mixed" ["_law_well_here", "_law_made_here", "_law_reach"] _ := ⟨_, _, PySem.W.mg_of X G a__law_mixed, k__law_mixed, b__law_mixed, ok__law_mixed F__law_mixed z c__law_draw⟩
  have c__law_link : Cal l.prog w K mg base 2 "_law_link" ["_law_well_here", "_law_made_here", "_law_kind", "_law_last"] _ := ⟨_, _, PySem.W.mg_of X G a__law_link, k__law_link, b__law_link, ok__law_link F__law_link z c__law_draw⟩
  have c__law_net : Cal l.prog w K mg base 3 "_law_net" ["_law_well_here"] _ := ⟨_, _, PySem.W.mg_of X G a__law_net, k__law_net, b__law_net, ok__law_net F__law_net z c__law_draw c__law_form c__law_word c__law_row c__law_begin c__law_mixed c__law_link⟩
  have c__law_made : Cal l.prog w K mg base 8 "_law_made" ["_law_house"] _ := ⟨_, _, PySem.W.mg_of X G a__law_made, k__law_made, b__law_made, ok__law_made F__law_made z c_Form_4 c_Net_5⟩
  have c__law_lines : Cal l.prog w K mg base 1 "_law_lines" ["_law_parts"] _ := ⟨_, _, PySem.W.mg_of X G a__law_lines, k__law_lines, b__law_lines, ok__law_lines (k := 0) F__law_lines z⟩
  exact ok_law T IC TN IN F_law z okE OQ okN ON c__law_cell_at c__law_well c__law_net c__law_made c__law_lines c_show_net c_show_net_k c_read_net c_read_net_k n_forms n_rows n_holds n_enters n_out

end E1

open PySem PySem.W PySem.Calls PyProof.Rows
set_option maxRecDepth 100000 in
set_option maxHeartbeats 0 in
theorem PySem.Challenge.cw_echobound_k92_nets_as_texts_holds : PySem.Challenge.rw_echobound_k92_nets_as_texts.Holds := by
  w_on; o_law
  refine HandSHeadRun.head_any (r := OpenLaw.row PySem.Challenge.rw_echobound_k92_nets_as_texts) (q := HX.qv) (H := HX.hk) (ob := HX.ob) (M := 4676) (loose := HX.names) (d := HandSHeadRun.topDef (OpenLaw.row PySem.Challenge.rw_echobound_k92_nets_as_texts).prog 81) (kwd := []) HX.ob_eq (by kernel_rfl) (fun s => by kernel_rfl) HX.run (by kernel_rfl) (by kernel_rfl) (by kernel_rfl) (by rfl) (by first | assumption | decide +kernel) (by decide +kernel) ⟨rfl, rfl, rfl, rfl, rfl, by decide +kernel⟩ ?hw ?hc
  case hw => w_witness2
  case hc =>
    refine L2.walk_ofE (l := PySem.Challenge.rw_echobound_k92_nets_as_texts) (n := 63) (k := 9) (x := "_law_script") (CX := L2.CX0) rfl (by decide) (by kernel_rfl) ⟨rfl, by decide, by decide⟩ ?F (fun _ _ _ _ z => z)
    intro w mg fa h Y G hmg0
    obtain ⟨K, KX, c⟩ := Y
    have hmg : mg ("law" : PySem.Str) = some (.ref fa) := by
      have e : (HandSHeadRun.topDef (OpenLaw.row PySem.Challenge.rw_echobound_k92_nets_as_texts).prog 81).name = ("law" : PySem.Str) := by kernel_rfl
      rw [← e]
      exact hmg0
    obtain ⟨fd, hb, hF⟩ := E1.all_mk (l := PySem.Challenge.rw_echobound_k92_nets_as_texts) rfl rfl rfl rfl rfl rfl rfl rfl rfl rfl KX G hmg (by rfl) (by first | rfl | decide +kernel) c
    exact ⟨K, fd, E1.spLaw K, KX, hb, fun H a ns hl _ hS => ⟨a, ns, rfl, hS, hl, fun _ => rfl⟩, hF⟩
