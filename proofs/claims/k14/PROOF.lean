import PyProof.Rows.All
import Wide.All
import OpenK.AllK
import Wide.FinOn
import HandS.Codes
import HandS.ForMost
import HandS.Wide
import HandS.Zip
import HandS.IsInst
import HandS.Defaults
import HandS.Style
import HandS.RevRange
import HandS.Star
import HandS.Walk
import HandS.More
import HandS.WideBits
import OpenK.KEqL
import HandS.Flow
import HandS.Conv
import HandS.TupAny
import HandS.Small
import HandS.Deep
import KE.GoesMore
import KE.KRevIter
import HandS.Rev
import KE.RegKSuper
import KE.RegKIsAll
import KE.RegKTryMore
import KE.KNestM
import HandS.EndTab
import KE.KStateDown
import HandS.Words
import HandS.WordsExc
import HandS.Head0
import HandS.Head1
import HandS.Head2
import HandS.HeadEnd
import HandS.HeadHook1
import HandS.HeadHook2
import HandS.HeadHook3
import HandS.HeadHook4
import PySem.Challenge.RW_echobound_k14_above_nought_or_not
set_option Elab.async false
set_option linter.all false
set_option maxRecDepth 100000
set_option maxHeartbeats 4000000
namespace E1
open PySem PySem.Spec PyProof.Rows L2
/-! ### a def of the text that is called by its name -/
def Cal (P : Program) (w : World) (K : PySem.W.Frag) (mg : Str → Option Value) (base : Heap) (k : Nat) (x : Str) (ps : List Str) (sp : Sp) : Prop :=
  ∃ (f : Addr) (fd : FuncData), mg x = some (.ref f) ∧ PySem.W.keepIn K (.ref f) = true ∧ Binds K fd ps [] ∧ FnOk P w K mg base CX0 k f fd ps sp
theorem pe_cal {X : Cx} {k j : Nat} {x : Str} {ps : List Str} {sp : Sp} {e : Expr} {es : List Expr} {t : TA} {p pos : Pos} (c : Cal X.prog X.w X.K X.mg X.base k x ps sp) (hr : Room j X.A) (ha : PA X (e :: es) t) (hle : k ≤ j := by decide) (hg : Gl X x := by rfl)
    (hdb : (x == ("__debug__" : Str)) = false := by decide) (he : starEach (e :: es) X.env = (false, eval e X.env) :: starEach es X.env := by rfl) (hpl : (backTo pos (starEach es X.env)).any (·.1) = false := by rfl) :
    PE X (.Call (.Name x p) (e :: es) [] pos) (tCall sp [] E0 t) := by
  obtain ⟨f, fd, h1, h2, h3, h4⟩ := c
  exact pe_call h4 (hr.mono hle) hg h1 h2 h3 .nil pass0 ha hdb he hpl
/-! ### heaps -/
def SameBut (a : Addr) (H H' : Hp) : Prop := ∀ b o, b ≠ a → H b = some o → H' b = some o
theorem SameBut.refl (a : Addr) (H : Hp) : SameBut a H H := fun _ _ _ h => h
theorem SameBut.trans {a : Addr} {H H1 H2 : Hp} (x : SameBut a H H1) (y : SameBut a H1 H2) : SameBut a H H2 := fun b o n h => y b o n (x b o n h)
theorem SameBut.of {a : Addr} {H H' : Hp} (s : Same H H') : SameBut a H H' := fun b o _ h => s b o h
theorem SameBut.upd {a : Addr} {H : Hp} {o : HO} : SameBut a H (upd H a o) := fun b _ n h => by
  rw [upd_ne n]
  exact h
theorem same_new {H : Hp} {p : Addr} {o : HO} (h : H p = none) : Same H (upd H p o) := fun b x e => by
  rw [upd_ne (ne_of_none e h)]
  exact e
theorem Same.tup {K : PySem.W.Frag} {H H' : Hp} {a : Addr} {xs : List V} (e : Same H H') (h : SqT K H a xs) : SqT K H' a xs := by
  rcases h with (h | ⟨o, h⟩) | h
  · exact .inl (.inl (e _ _ h))
  · exact .inl (.inr ⟨o, e _ _ h⟩)
  · exact .inr h
theorem a0 {α : Type} {x : α} {l : List α} : atI (x :: l) 0 = some x := atI_nat (j := 0) rfl
theorem a1 {α : Type} {x y : α} {l : List α} : atI (x :: y :: l) 1 = some y := atI_nat (j := 1) rfl
theorem a2 {α : Type} {x y z : α} {l : List α} : atI (x :: y :: z :: l) 2 = some z := atI_nat (j := 2) rfl
theorem toB {p : Prop} [Decidable p] (h : decide p = true) : p := of_decide_eq_true h
theorem toNB {p : Prop} [Decidable p] (h : ¬ decide p = true) : ¬ p := fun z => h (decide_eq_true z)
/-- a well: the digits left, a number that is mixed, how many were mixed (at most c) -/
def WellAt (H : Hp) (a : Addr) (c : Int) : Prop := ∃ x y z : Int, H a = some (.lst [.int x, .int y, .int z]) ∧ 0 ≤ y ∧ y < 2147483647 ∧ 0 ≤ z ∧ z ≤ c
theorem WellAt.mono {H : Hp} {a : Addr} {c d : Int} (h : WellAt H a c) (l : c ≤ d) : WellAt H a d := by
  obtain ⟨x, y, z, e, h1, h2, h3, h4⟩ := h
  exact ⟨x, y, z, e, h1, h2, h3, by omega⟩
theorem WellAt.same {H H' : Hp} {a : Addr} {c : Int} (h : WellAt H a c) (s : Same H H') : WellAt H' a c := by
  obtain ⟨x, y, z, e, h1, h2, h3, h4⟩ := h
  exact ⟨x, y, z, s _ _ e, h1, h2, h3, h4⟩
theorem WellAt.but {H H' : Hp} {a b : Addr} {c : Int} (h : WellAt H a c) (s : SameBut b H H') (n : a ≠ b) : WellAt H' a c := by
  obtain ⟨x, y, z, e, h1, h2, h3, h4⟩ := h
  exact ⟨x, y, z, s _ _ n e, h1, h2, h3, h4⟩
/-! ### promises of the law's helpers -/
def spCell (K : PySem.W.Frag) : Sp := fun vs H Q _ => ∃ (a : Addr) (ns : List Int) (k : Nat), vs = [.ref a, .int k] ∧ SqL K H a (ns.map V.int) ∧ Q (.int (ns.getD k 0)) H
def spWell : Sp := fun vs H Q _ => ∃ c : Int, vs = [.int c] ∧ ∀ p : Addr, H p = none → ∀ H', Same H H' → WellAt H' p 0 → Q (.ref p) H'
/-- a number from 0 to below m; the well has at most one more -/
def spDraw : Sp := fun vs H Q _ => ∃ (a : Addr) (c m : Int), vs = [.ref a, .int m] ∧ WellAt H a c ∧ c ≤ 1000000000 ∧ 0 < m ∧ m.natAbs < 2 ^ 9000 ∧
  ∀ (r : Int) (H' : Hp), 0 ≤ r → r < m → SameBut a H H' → (∀ b, H b = none → H' b = none) → WellAt H' a (c + 1) → Q (.int r) H'
def topS (i : Nat) : Stmt := PySem.Challenge.pw_echobound_k14_above_nought_or_not.main.body.getD i (.Pass ⟨0, 0, 0, 0⟩)
abbrev s_is_whole : Stmt := topS 6
abbrev s_is_fraction : Stmt := topS 7
abbrev s_shared_divisor : Stmt := topS 8
abbrev s_lowest : Stmt := topS 9
abbrev s_is_fractions : Stmt := topS 11
abbrev s_common_bottom : Stmt := topS 12
abbrev s_cleared : Stmt := topS 13
abbrev s_dot : Stmt := topS 14
abbrev s_below_cleared : Stmt := topS 15
abbrev s_stepped_above : Stmt := topS 16
abbrev s_made_up : Stmt := topS 17
abbrev s_cancelled : Stmt := topS 18
abbrev s_is_row : Stmt := topS 21
abbrev s_is_matrix : Stmt := topS 22
abbrev s_shape_of : Stmt := topS 23
abbrev s_turned_over : Stmt := topS 24
abbrev s_is_square : Stmt := topS 25
abbrev s_is_symmetric : Stmt := topS 26
abbrev s_check_symmetric : Stmt := topS 27
abbrev s_lower_place : Stmt := topS 28
abbrev s_pivots_of : Stmt := topS 29
abbrev s_signs_of : Stmt := topS 30
abbrev s_signs : Stmt := topS 31
abbrev s__law_cell_at : Stmt := topS 33
abbrev s__law_well : Stmt := topS 34
abbrev s__law_draw : Stmt := topS 35
abbrev s__law_one : Stmt := topS 36
abbrev s__law_low : Stmt := topS 37
abbrev s__law_sum : Stmt := topS 38
abbrev s__law_dot : Stmt := topS 39
abbrev s__law_place : Stmt := topS 40
abbrev s__law_lower : Stmt := topS 41
abbrev s__law_of : Stmt := topS 42
abbrev s__law_pivots : Stmt := topS 43
abbrev s__law_square : Stmt := topS 44
abbrev s__law_own : Stmt := topS 45
abbrev s__law_plain : Stmt := topS 46
abbrev s__law_right : Stmt := topS 47
abbrev s__law_beside : Stmt := topS 48
abbrev s_law : Stmt := topS 49
section
variable {P : Program} {w : World} {K : PySem.W.Frag} {mg : Str → Option Value} {base : Heap}
end
end E1

namespace E1
open PySem PySem.Spec PyProof.Rows L2


end E1

namespace E1
open PySem PySem.Spec PyProof.Rows L2

theorem Vals.rev : ∀ {xs : List V} {us : List Value}, Vals xs us → Vals xs.reverse us.reverse
  | _, _, .nil => .nil
  | _, _, .cons r t => by
    rw [List.reverse_cons, List.reverse_cons]
    exact Vals.append (Vals.rev t) (.cons r .nil)
section
variable {P : Program} {w : World} {K : PySem.W.Frag} {mg : Str → Option Value} {base : Heap} {x : Str} {st : Stmt} {f : Addr} {fd : FuncData} {ps ks : List Str} {k n : Nat} {sp : Sp}
/-- a def without defaults: its arguments by keywords alone or behind others -/
theorem Fun.kbn {qual : Str} (F : Fun K x qual st f fd) {g : List Value → List Value → List Value} {gV : List V → List V → List V} (hrel : ∀ {vs : List V} {us : List Value} {zs : List V} {ws : List Value}, Vals vs us → Vals zs ws → Vals (gV vs zs) (g us ws))
    (h : ∀ (kV doc pm : Value) (an : Option Addr) (cdv ct : Value) (us ws : List Value), us.length = n → ws.length = ks.length → bindArgs (PySem.W.fnOf x qual (defArgs st) (defBody st) (defScope st) .none kV doc pm an cdv ct) ⟨us, ks.zip ws⟩ = pure (ps.zip (g us ws))) : KBn K fd ps n ks g gV := by
  rcases F.ex with ⟨_, _, v1, v2, v3, v4, v5, v6, _, same, _, _⟩
  subst same
  exact ⟨fun s us ws _ l1 l2 => .of_eq (h v1 v2 v3 v4 v5 v6 us ws l1 l2), hrel⟩
/-- a def with defaults, all arguments given -/
theorem FunD.kbn {qual : Str} {params : Arguments} {body : List Stmt} {scope : Scope} {dvs : List V} {kws : List (Str × V)} (F : FunD K x qual params body scope dvs kws f fd) (hd : dvs ≠ []) {g : List Value → List Value → List Value} {gV : List V → List V → List V} (hrel : ∀ {vs : List V} {us : List Value} {zs : List V} {ws : List Value}, Vals vs us → Vals zs ws → Vals (gV vs zs) (g us ws))
    (h : ∀ (T : Addr) (kV doc pm : Value) (an : Option Addr) (cdv ct : Value) (us ws its : List Value), us.length = n → ws.length = ks.length → its.length = dvs.length → ∃ k, bindArgs (PySem.W.fnOf x qual params body scope (.ref T) kV doc pm an cdv ct) ⟨us, ks.zip ws⟩ = seqItems? (.ref T) >>= k ∧ k (some its.toArray) = pure (ps.zip (g us ws))) : KBn K fd ps n ks g gV := by
  rcases F.ex with ⟨_, _, _, v1, v2, v3, v4, v5, v6, _, same, _, _, bare | given, _⟩
  · exact absurd bare.1 hd
  · rcases given with ⟨_, T, _, its, _, dv, at_, it, rel⟩
    subst same dv
    refine ⟨fun s us ws inn l1 l2 => BindsTo.of_looks fun M => ?_, hrel⟩
    rcases h T v1 v2 v3 v4 v5 v6 us ws its l1 l2 rel.length.symm with ⟨go, b1, b2⟩
    rw [b1]
    exact looks_items inn at_ it (.of_pure b2)
end

theorem fun_of {K : PySem.W.Frag} {x qual : Str} {st : Stmt} {f : Addr} {fd : FuncData} (F : FunD K x qual (defArgs st) (defBody st) (defScope st) [] [] f fd) : Fun K x qual st f fd := by
  obtain ⟨oc, od, dV, kV, doc, pm, an, cdv, ct, osl, e, lk, hcd, hd, _⟩ := F.ex
  rcases hd with ⟨_, rfl⟩ | ⟨n, _⟩
  · exact ⟨⟨oc, od, kV, doc, pm, an, cdv, ct, osl, e, lk, hcd⟩, F.kp⟩
  · exact absurd rfl n
theorem ex_at {l : List Bool} (h : (l.all id) = true) {i : Nat} {b : Bool} (e : l[i]? = some b) : b = true := List.all_eq_true.mp h b (List.mem_of_getElem? e)
theorem val_int {K : PySem.W.Frag} {a : Addr} {kvs : List (Str × He.Dv)} (h : He.valsB K a kvs = true) {i : Nat} {k : Str} {v : Int} (e : kvs[i]? = some (k, .int v)) : ∃ t, PySem.W.nsIn K a k = some (some (.int v t)) := by
  obtain ⟨u, e1, r⟩ := He.valsB_ok h (List.mem_of_getElem? e)
  obtain ⟨t, rfl⟩ := r
  exact ⟨t, e1⟩
/-- the head's facts, of these addresses -/
abbrev AlY : Type := He.AlT × Bool
def obsY (as : List Addr) (fa : List He.Fa) (fn : List He.DefD) (ts : List He.Tab) (ex : PySem.W.Frag → Bool) (g : Addr → Option Obj) : AlY := (He.obsT fa fn ts (He.frG g as), ex (He.frG g as))
structure SaysY (fa : List He.Fa) (fn : List He.DefD) (ts : List He.Tab) (ex : PySem.W.Frag → Bool) (w : World) (K : PySem.W.Frag) : Prop where
  t : He.SaysT fa fn ts w K
  more : ex K = true
def hookY (as : List Addr) (fa : List He.Fa) (fn : List He.DefD) (ts : List He.Tab) (ex : PySem.W.Frag → Bool) : PySem.W.Hook where
  α := AlY
  obs := fun s => obsY as fa fn ts ex s.heap.get?
  val := fun w => (He.valT fn ts w, true)
  says := fun w h => ∃ K : PySem.W.Frag, K.In h ∧ SaysY fa fn ts ex w K
  of := fun _ _ e => ⟨_, He.frG_in, congrArg (fun z : AlY => z.1) e, congrArg (fun z : AlY => z.2) e⟩
  keeps := fun _ _ _ ⟨K, hK, c⟩ k => ⟨K, PySem.W.Frag.In.keeps hK k, c⟩
theorem obsY_eq {as : List Addr} {fa : List He.Fa} {fn : List He.DefD} {ts : List He.Tab} {ex : PySem.W.Frag → Bool} {g : Addr → Option Obj} {s : Shared} (h : ∀ a, g a = s.heap.get? a) : obsY as fa fn ts ex g = (hookY as fa fn ts ex).obs s := by
  have e : g = s.heap.get? := funext h
  rw [e]
  rfl
def dd_is_whole : He.DefD := ⟨("is_whole", none), "is_whole", "is_whole", defArgs s_is_whole, defBody s_is_whole, defScope s_is_whole, [], []⟩
def dd_is_fraction : He.DefD := ⟨("is_fraction", none), "is_fraction", "is_fraction", defArgs s_is_fraction, defBody s_is_fraction, defScope s_is_fraction, [], []⟩
def dd_shared_divisor : He.DefD := ⟨("shared_divisor", none), "shared_divisor", "shared_divisor", defArgs s_shared_divisor, defBody s_shared_divisor, defScope s_shared_divisor, [], []⟩
def dd_lowest : He.DefD := ⟨("lowest", none), "lowest", "lowest", defArgs s_lowest, defBody s_lowest, defScope s_lowest, [], []⟩
def dd_is_fractions : He.DefD := ⟨("is_fractions", none), "is_fractions", "is_fractions", defArgs s_is_fractions, defBody s_is_fractions, defScope s_is_fractions, [], []⟩
def dd_common_bottom : He.DefD := ⟨("common_bottom", none), "common_bottom", "common_bottom", defArgs s_common_bottom, defBody s_common_bottom, defScope s_common_bottom, [], []⟩
def dd_cleared : He.DefD := ⟨("cleared", none), "cleared", "cleared", defArgs s_cleared, defBody s_cleared, defScope s_cleared, [], []⟩
def dd_dot : He.DefD := ⟨("dot", none), "dot", "dot", defArgs s_dot, defBody s_dot, defScope s_dot, [], []⟩
def dd_below_cleared : He.DefD := ⟨("below_cleared", none), "below_cleared", "below_cleared", defArgs s_below_cleared, defBody s_below_cleared, defScope s_below_cleared, [], []⟩
def dd_stepped_above : He.DefD := ⟨("stepped_above", none), "stepped_above", "stepped_above", defArgs s_stepped_above, defBody s_stepped_above, defScope s_stepped_above, [], []⟩
def dd_made_up : He.DefD := ⟨("made_up", none), "made_up", "made_up", defArgs s_made_up, defBody s_made_up, defScope s_made_up, [], []⟩
def dd_cancelled : He.DefD := ⟨("cancelled", none), "cancelled", "cancelled", defArgs s_cancelled, defBody s_cancelled, defScope s_cancelled, [], []⟩
def dd_is_row : He.DefD := ⟨("is_row", none), "is_row", "is_row", defArgs s_is_row, defBody s_is_row, defScope s_is_row, [], []⟩
def dd_is_matrix : He.DefD := ⟨("is_matrix", none), "is_matrix", "is_matrix", defArgs s_is_matrix, defBody s_is_matrix, defScope s_is_matrix, [], []⟩
def dd_shape_of : He.DefD := ⟨("shape_of", none), "shape_of", "shape_of", defArgs s_shape_of, defBody s_shape_of, defScope s_shape_of, [], []⟩
def dd_turned_over : He.DefD := ⟨("turned_over", none), "turned_over", "turned_over", defArgs s_turned_over, defBody s_turned_over, defScope s_turned_over, [], []⟩
def dd_is_square : He.DefD := ⟨("is_square", none), "is_square", "is_square", defArgs s_is_square, defBody s_is_square, defScope s_is_square, [], []⟩
def dd_is_symmetric : He.DefD := ⟨("is_symmetric", none), "is_symmetric", "is_symmetric", defArgs s_is_symmetric, defBody s_is_symmetric, defScope s_is_symmetric, [], []⟩
def dd_check_symmetric : He.DefD := ⟨("check_symmetric", none), "check_symmetric", "check_symmetric", defArgs s_check_symmetric, defBody s_check_symmetric, defScope s_check_symmetric, [], []⟩
def dd_lower_place : He.DefD := ⟨("lower_place", none), "lower_place", "lower_place", defArgs s_lower_place, defBody s_lower_place, defScope s_lower_place, [], []⟩
def dd_pivots_of : He.DefD := ⟨("pivots_of", none), "pivots_of", "pivots_of", defArgs s_pivots_of, defBody s_pivots_of, defScope s_pivots_of, [], []⟩
def dd_signs_of : He.DefD := ⟨("signs_of", none), "signs_of", "signs_of", defArgs s_signs_of, defBody s_signs_of, defScope s_signs_of, [], []⟩
def dd_signs : He.DefD := ⟨("signs", none), "signs", "signs", defArgs s_signs, defBody s_signs, defScope s_signs, [], []⟩
def dd__law_cell_at : He.DefD := ⟨("_law_cell_at", none), "_law_cell_at", "_law_cell_at", defArgs s__law_cell_at, defBody s__law_cell_at, defScope s__law_cell_at, [], []⟩
def dd__law_well : He.DefD := ⟨("_law_well", none), "_law_well", "_law_well", defArgs s__law_well, defBody s__law_well, defScope s__law_well, [], []⟩
def dd__law_draw : He.DefD := ⟨("_law_draw", none), "_law_draw", "_law_draw", defArgs s__law_draw, defBody s__law_draw, defScope s__law_draw, [], []⟩
def dd__law_one : He.DefD := ⟨("_law_one", none), "_law_one", "_law_one", defArgs s__law_one, defBody s__law_one, defScope s__law_one, [], []⟩
def dd__law_low : He.DefD := ⟨("_law_low", none), "_law_low", "_law_low", defArgs s__law_low, defBody s__law_low, defScope s__law_low, [], []⟩
def dd__law_sum : He.DefD := ⟨("_law_sum", none), "_law_sum", "_law_sum", defArgs s__law_sum, defBody s__law_sum, defScope s__law_sum, [], []⟩
def dd__law_dot : He.DefD := ⟨("_law_dot", none), "_law_dot", "_law_dot", defArgs s__law_dot, defBody s__law_dot, defScope s__law_dot, [], []⟩
def dd__law_place : He.DefD := ⟨("_law_place", none), "_law_place", "_law_place", defArgs s__law_place, defBody s__law_place, defScope s__law_place, [], []⟩
def dd__law_lower : He.DefD := ⟨("_law_lower", none), "_law_lower", "_law_lower", defArgs s__law_lower, defBody s__law_lower, defScope s__law_lower, [], []⟩
def dd__law_of : He.DefD := ⟨("_law_of", none), "_law_of", "_law_of", defArgs s__law_of, defBody s__law_of, defScope s__law_of, [], []⟩
def dd__law_pivots : He.DefD := ⟨("_law_pivots", none), "_law_pivots", "_law_pivots", defArgs s__law_pivots, defBody s__law_pivots, defScope s__law_pivots, [], []⟩
def dd__law_square : He.DefD := ⟨("_law_square", none), "_law_square", "_law_square", defArgs s__law_square, defBody s__law_square, defScope s__law_square, [], []⟩
def dd__law_own : He.DefD := ⟨("_law_own", none), "_law_own", "_law_own", defArgs s__law_own, defBody s__law_own, defScope s__law_own, [], []⟩
def dd__law_plain : He.DefD := ⟨("_law_plain", none), "_law_plain", "_law_plain", defArgs s__law_plain, defBody s__law_plain, defScope s__law_plain, [], []⟩
def dd__law_right : He.DefD := ⟨("_law_right", none), "_law_right", "_law_right", defArgs s__law_right, defBody s__law_right, defScope s__law_right, [], []⟩
def dd__law_beside : He.DefD := ⟨("_law_beside", none), "_law_beside", "_law_beside", defArgs s__law_beside, defBody s__law_beside, defScope s__law_beside, [], []⟩
def dd_law : He.DefD := ⟨("law", none), "law", "law", defArgs s_law, defBody s_law, defScope s_law, [], []⟩
def FN_0 : List He.DefD := [dd_is_whole, dd_is_fraction, dd_shared_divisor, dd_lowest, dd_is_fractions, dd_common_bottom, dd_cleared, dd_dot, dd_below_cleared, dd_stepped_above, dd_made_up, dd_cancelled, dd_is_row, dd_is_matrix, dd_shape_of, dd_turned_over, dd_is_square, dd_is_symmetric, dd_check_symmetric, dd_lower_place]
def FN_1 : List He.DefD := [dd_pivots_of, dd_signs_of, dd_signs, dd__law_cell_at, dd__law_well, dd__law_draw, dd__law_one, dd__law_low, dd__law_sum, dd__law_dot, dd__law_place, dd__law_lower, dd__law_of, dd__law_pivots, dd__law_square, dd__law_own, dd__law_plain, dd__law_right, dd__law_beside, dd_law]
def FN : List He.DefD := FN_0 ++ (FN_1)
def FA_0 : List He.Fa := [.glo "is_whole", .glo "is_fraction", .glo "shared_divisor", .glo "lowest", .glo "is_fractions", .glo "common_bottom", .glo "cleared", .glo "dot", .glo "below_cleared", .glo "stepped_above", .glo "made_up", .glo "cancelled", .glo "is_row", .glo "is_matrix", .glo "shape_of", .glo "turned_over", .glo "is_square", .glo "is_symmetric", .glo "check_symmetric", .glo "lower_place"]
def FA_1 : List He.Fa := [.glo "pivots_of", .glo "signs_of", .glo "signs", .glo "_law_cell_at", .glo "_law_well", .glo "_law_draw", .glo "_law_one", .glo "_law_low", .glo "_law_sum", .glo "_law_dot", .glo "_law_place", .glo "_law_lower", .glo "_law_of", .glo "_law_pivots", .glo "_law_square", .glo "_law_own", .glo "_law_plain", .glo "_law_right", .glo "_law_beside", .glo "law"]
def FA_2 : List He.Fa := [.int "MOST_ROWS" 10, .glo "ONE", .glo "NOUGHT", .free "isinstance", .free "int", .free "bool", .free "tuple", .free "len", .free "abs", .free "list", .free "all", .free "sum", .free "zip", .free "range", .free "reversed", .free "enumerate", .free "max"]
def FA : List He.Fa := FA_0 ++ (FA_1 ++ (FA_2))
def TS_0 : List He.Tab := []
def TS : List He.Tab := TS_0
def EXL_0 (K : PySem.W.Frag) : List Bool := [He.tupB K "ONE" [.int 1, .int 1], He.tupB K "NOUGHT" [.int 0, .int 1]]
def EXL (K : PySem.W.Frag) : List Bool := EXL_0 K
def EXB (K : PySem.W.Frag) : Bool := (EXL K).all id
end E1

namespace HX
open PySem PySem.W PySem.Calls PyProof.Rows
abbrev RR : OpenRow := OpenLaw.row PySem.Challenge.rw_echobound_k14_above_nought_or_not
abbrev qv : Program := view RR.prog [49]
def names_0 : List PySem.Str := [("__name__" : PySem.Str), ("EchoError" : PySem.Str), ("NoMatrix" : PySem.Str), ("NOUGHT" : PySem.Str), ("ONE" : PySem.Str), ("is_whole" : PySem.Str), ("is_fraction" : PySem.Str), ("shared_divisor" : PySem.Str), ("lowest" : PySem.Str), ("is_fractions" : PySem.Str), ("common_bottom" : PySem.Str), ("cleared" : PySem.Str), ("dot" : PySem.Str), ("below_cleared" : PySem.Str), ("stepped_above" : PySem.Str), ("made_up" : PySem.Str), ("cancelled" : PySem.Str), ("MOST_ROWS" : PySem.Str), ("is_row" : PySem.Str), ("is_matrix" : PySem.Str)]
def names_1 : List PySem.Str := [("shape_of" : PySem.Str), ("turned_over" : PySem.Str), ("is_square" : PySem.Str), ("is_symmetric" : PySem.Str), ("check_symmetric" : PySem.Str), ("lower_place" : PySem.Str), ("pivots_of" : PySem.Str), ("signs_of" : PySem.Str), ("signs" : PySem.Str), ("_law_cell_at" : PySem.Str), ("_law_well" : PySem.Str), ("_law_draw" : PySem.Str), ("_law_one" : PySem.Str), ("_law_low" : PySem.Str), ("_law_sum" : PySem.Str), ("_law_dot" : PySem.Str), ("_law_place" : PySem.Str), ("_law_lower" : PySem.Str), ("_law_of" : PySem.Str), ("_law_pivots" : PySem.Str)]
def names_2 : List PySem.Str := [("_law_square" : PySem.Str), ("_law_own" : PySem.Str), ("_law_plain" : PySem.Str), ("_law_right" : PySem.Str), ("_law_beside" : PySem.Str)]
def names : List PySem.Str := names_0 ++ (names_1 ++ (names_2))
def AS_0 : List Addr := [3, 6, 4, 24, 37, 40, 41, 48, 55, 62, 69, 74, 81, 86, 91, 96, 103, 108, 113, 120, 125, 132, 137, 144, 151, 158, 165, 172, 177, 184]
def AS_1 : List Addr := [191, 198, 205, 212, 219, 226, 231, 238, 243, 248, 253, 258, 263, 268, 273, 278, 283, 0, 23, 36, 47, 54, 61, 68, 73, 80, 85, 90, 95, 102]
def AS_2 : List Addr := [107, 112, 119, 124, 131, 136, 143, 150, 157, 164, 171, 176, 183, 190, 197, 204, 211, 218, 225, 230, 237, 242, 247, 252, 257, 262, 267, 272, 277, 282]
def AS_3 : List Addr := [46, 53, 60, 67, 72, 79, 84, 89, 94, 101, 106, 111, 118, 123, 130, 135, 142, 149, 156, 163, 170, 175, 182, 189, 196, 203, 210, 217, 224, 229]
def AS_4 : List Addr := [236, 241, 246, 251, 256, 261, 266, 271, 276, 281, 2]
def AS : List Addr := AS_0 ++ (AS_1 ++ (AS_2 ++ (AS_3 ++ (AS_4))))
abbrev hk : PySem.W.Hook := E1.hookY AS E1.FA E1.FN E1.TS E1.EXB
def ob (s : PySem.W.SharedT) : E1.AlY := E1.obsY AS E1.FA E1.FN E1.TS E1.EXB (HandSHeadRun.getT s)
theorem ob_eq (s : PySem.W.SharedT) : ob s = hk.obs s.abs := E1.obsY_eq (HandSHeadRun.getT_eq s)
set_option maxRecDepth 100000 in
set_option maxHeartbeats 0 in
theorem run_f (w : World) : HandSHeadRun.RunEq RR qv hk ob 1684 names (w.withFollow "special-get-raises" false) := fun os => by kernel_rfl
set_option maxRecDepth 100000 in
set_option maxHeartbeats 0 in
theorem run_t (w : World) : HandSHeadRun.RunEq RR qv hk ob 1684 names (w.withFollow "special-get-raises" true) := fun os => by kernel_rfl
theorem run (w : World) : HandSHeadRun.RunEq RR qv hk ob 1684 names w :=
  byRow2 "special-get-raises" (P := fun w => HandSHeadRun.RunEq RR qv hk ob 1684 names w) run_f run_t w
end HX

namespace E1
open PySem PySem.Spec PyProof.Rows L2

def CalD (P : Program) (w : World) (K : PySem.W.Frag) (mg : Str → Option Value) (base : Heap) (k : Nat) (x : Str) (ps : List Str) (dvs : List V) (sp : Sp) : Prop :=
  ∃ (f : Addr) (fd : FuncData) (ds : List Value), mg x = some (.ref f) ∧ PySem.W.keepIn K (.ref f) = true ∧ Vals dvs ds ∧ Binds K fd ps ds ∧ FnOk P w K mg base CX0 k f fd ps sp
theorem pe_cald {X : Cx} {k j : Nat} {x : Str} {ps : List Str} {dvs : List V} {sp : Sp} {e : Expr} {es : List Expr} {t : TA} {p pos : Pos} (c : CalD X.prog X.w X.K X.mg X.base k x ps dvs sp) (hr : Room j X.A) (ha : PA X (e :: es) t) (hle : k ≤ j := by decide) (hg : Gl X x := by rfl)
    (hdb : (x == ("__debug__" : Str)) = false := by decide) (he : starEach (e :: es) X.env = (false, eval e X.env) :: starEach es X.env := by rfl) (hpl : (backTo pos (starEach es X.env)).any (·.1) = false := by rfl) :
    PE X (.Call (.Name x p) (e :: es) [] pos) (tCall sp dvs E0 t) := by
  obtain ⟨f, fd, ds, h1, h2, hd, h3, h4⟩ := c
  exact pe_call h4 (hr.mono hle) hg h1 h2 h3 hd pass0 ha hdb he hpl
def CalK (P : Program) (w : World) (K : PySem.W.Frag) (mg : Str → Option Value) (base : Heap) (k : Nat) (x : Str) (ps : List Str) (n : Nat) (ks : List Str) (gV : List V → List V → List V) (sp : Sp) : Prop :=
  ∃ (f : Addr) (fd : FuncData) (g : List Value → List Value → List Value), mg x = some (.ref f) ∧ PySem.W.keepIn K (.ref f) = true ∧ KBn K fd ps n ks g gV ∧ FnOk P w K mg base CX0 k f fd ps sp
theorem pe_calk {X : Cx} {k j n : Nat} {x : Str} {ps ks : List Str} {gV : List V → List V → List V} {sp : Sp} {e : Expr} {es : List Expr} {kws : List Keyword} {t tk : TA} {p pos : Pos} (c : CalK X.prog X.w X.K X.mg X.base k x ps n ks gV sp) (hr : Room j X.A)
    (ha : PA X (e :: es) t) (hkw : PK X kws tk) (hle : k ≤ j := by decide) (hg : Gl X x := by rfl) (hall : (backToKw pos (keywordEach kws X.env)).all (·.1.isSome) = true := by rfl) (hks : (backToKw pos (keywordEach kws X.env)).filterMap (·.1) = ks := by rfl)
    (hdb : (x == ("__debug__" : Str)) = false := by decide) (he : starEach (e :: es) X.env = (false, eval e X.env) :: starEach es X.env := by rfl)
    (hpl : ((backTo pos (starEach (e :: es) X.env)).any (·.1) || (backToKw pos (keywordEach kws X.env)).any (·.1.isNone)) = false := by rfl) :
    PE X (.Call (.Name x p) (e :: es) kws pos) (tCallN n ks.length sp gV E0 t tk) := by
  obtain ⟨f, fd, g, h1, h2, h3, h4⟩ := c
  exact pe_callN h4 (hr.mono hle) hg h1 h2 h3 pass0 ha hkw hall hks hdb he hpl
theorem pe_calk0 {X : Cx} {k j : Nat} {x : Str} {ps ks : List Str} {gV : List V → List V → List V} {sp : Sp} {kws : List Keyword} {tk : TA} {p pos : Pos} (c : CalK X.prog X.w X.K X.mg X.base k x ps 0 ks gV sp) (hr : Room j X.A)
    (hkw : PK X kws tk) (hle : k ≤ j := by decide) (hg : Gl X x := by rfl) (hall : (backToKw pos (keywordEach kws X.env)).all (·.1.isSome) = true := by rfl) (hks : (backToKw pos (keywordEach kws X.env)).filterMap (·.1) = ks := by rfl)
    (hdb : (x == ("__debug__" : Str)) = false := by decide)
    (hpl : ((backTo pos (starEach [] X.env)).any (·.1) || (backToKw pos (keywordEach kws X.env)).any (·.1.isNone)) = false := by rfl) :
    PE X (.Call (.Name x p) [] kws pos) (tCallN 0 ks.length sp gV E0 tNil tk) := by
  obtain ⟨f, fd, g, h1, h2, h3, h4⟩ := c
  refine ⟨fun pins s σ H Q I h => ?_⟩
  refine wpAny_Call_Name_kw (ld_glob I hg h1 ?_ hdb)
  refine PySem.W.callWith_KW0 (h₀ := X.base) I.ok.mod.kin h2 hall (thn (hkw.run pos pins s σ H _ I h) fun ws s2 ⟨zs, H2, I2, rz, l1, l2, q2⟩ => ⟨I2.kIn, ?_⟩) hpl
  rw [hks]
  exact run_fnN (vs := []) (us := []) h4 (hr.mono hle) h3 pass0 I2 .nil rz l1 l2 q2
/-- a class handed to isinstance -/
theorem isiB {K : PySem.W.Frag} {H : Hp} {x : V} {a b : String} {r : Bool} {Q : VK} (ty : TyX K H x (.type a)) (k : kitB a b = some r) (q : Q (.bl r) H) : rIsi K [x, .ty b] H Q :=
  ⟨x, .ty b, .type a, .type b, r, rfl, .ty _, ty, kit_ty k, q⟩
/-- whether a thing is a whole number -/
def WholeIs (K : PySem.W.Frag) (H : Hp) (x : V) (b : Bool) : Prop := (∃ i, x = .int i ∧ b = true) ∨ (∃ c, x = .bl c ∧ b = false) ∨ (b = false ∧ ∃ t : String, TyX K H x (.type t) ∧ kitB t "int" = some false)
theorem WholeIs.int {K : PySem.W.Frag} {H : Hp} (i : Int) : WholeIs K H (.int i) true := .inl ⟨i, rfl, rfl⟩
def spWhole (K : PySem.W.Frag) : Sp := fun vs H Q _ => ∃ (x : V) (b : Bool), vs = [x] ∧ WholeIs K H x b ∧ Q (.bl b) H
/-! ### the mathematics of fractions in lowest terms -/
def gI (t b : Int) : Int := (Int.gcd t b : Nat)
def lowT (t b : Int) : Int := (if b < 0 then -t else t) / gI t b
def lowB (t b : Int) : Int := (if b < 0 then -b else b) / gI t b
theorem gI_neg (t b : Int) : gI (-t) (-b) = gI t b := by
  unfold gI
  rw [Int.neg_gcd, Int.gcd_neg]
theorem gI_pos {t b : Int} (h : b ≠ 0) : 0 < gI t b := by
  have : 0 < Int.gcd t b := Int.gcd_pos_of_ne_zero_right t h
  unfold gI
  omega
theorem gI_le {t b : Int} (h : b ≠ 0) : (gI t b).natAbs ≤ b.natAbs := by
  have d : Int.gcd t b ∣ b.natAbs := Nat.gcd_dvd_right t.natAbs b.natAbs
  have := Nat.le_of_dvd (by omega) d
  unfold gI
  omega
def spShared : Sp := fun vs H Q _ => ∃ t b : Int, vs = [.int t, .int b] ∧ 0 ≤ b ∧ Q (.int (gI t b)) H
def spLow : Sp := fun vs H Q _ => ∃ t b : Int, vs = [.int t, .int b] ∧ b ≠ 0 ∧ b.natAbs < 2 ^ 4000 ∧ ∀ p, H p = none → Q (.ref p) (upd H p (.tup [.int (lowT t b), .int (lowB t b)]))
/-- two fractions at two places; the tops and bottoms told by f and d -/
def spTwo (K : PySem.W.Frag) (pre : Int → Int → Int → Int → Prop) (f d : Int → Int → Int → Int → Int) : Sp := fun vs H Q _ => ∃ (a c : Addr) (t u v x : Int), vs = [.ref a, .ref c] ∧ SqT K H a [.int t, .int u] ∧ SqT K H c [.int v, .int x] ∧
  pre t u v x ∧ 0 < u ∧ 0 < x ∧ t.natAbs < 2 ^ 1900 ∧ u.natAbs < 2 ^ 1900 ∧ v.natAbs < 2 ^ 1900 ∧ x.natAbs < 2 ^ 1900 ∧ ∀ p, H p = none → Q (.ref p) (upd H p (.tup [.int (lowT (f t u v x) (d t u v x)), .int (lowB (f t u v x) (d t u v x))]))
def spUnder (K : PySem.W.Frag) : Sp := fun vs H Q _ => ∃ (a c : Addr) (t u v x : Int), vs = [.ref a, .ref c] ∧ SqT K H a [.int t, .int u] ∧ SqT K H c [.int v, .int x] ∧
  t.natAbs < 2 ^ 1900 ∧ u.natAbs < 2 ^ 1900 ∧ v.natAbs < 2 ^ 1900 ∧ x.natAbs < 2 ^ 1900 ∧ Q (.bl (decide (t * x < v * u))) H
def absI (t : Int) : Int := if t < 0 then -t else t
def spSize (K : PySem.W.Frag) : Sp := fun vs H Q _ => ∃ (a : Addr) (t u : Int), vs = [.ref a] ∧ SqT K H a [.int t, .int u] ∧ ∀ p, H p = none → Q (.ref p) (upd H p (.tup [.int (absI t), .int u]))
def twoT (m : Int) : Int := if m < 0 then 1 else 2 ^ m.toNat
def twoB (m : Int) : Int := if m < 0 then 2 ^ (-m).toNat else 1
def spTwoTo : Sp := fun vs H Q _ => ∃ m : Int, vs = [.int m] ∧ -400 ≤ m ∧ m ≤ 400 ∧ ∀ p, H p = none → Q (.ref p) (upd H p (.tup [.int (twoT m), .int (twoB m)]))
def spIsFrac : Sp := fun vs H Q _ => ∃ (a : Addr) (t u : Int), vs = [.ref a] ∧ H a = some (.tup [.int t, .int u]) ∧ 1 ≤ u ∧ Q (.bl (decide (gI t u = 1))) H
theorem up {x : Nat} {a b : Nat} (h : x < 2 ^ a) (l : a ≤ b) : x < 2 ^ b := Nat.lt_of_lt_of_le h (Nat.pow_le_pow_right (by decide) l)
theorem same_but {H H1 H2 : Hp} {p : Addr} (s : Same H H1) (b : SameBut p H1 H2) (hp : H p = none) : Same H H2 := fun a o e => b a o (ne_of_none e hp) (s a o e)
theorem iteN {c A B : Prop} [Decidable c] (h1 : ¬ c → A) (h2 : c → B) : if (!decide c) = true then A else B := by
  by_cases h : c
  · rw [decide_eq_true h]
    exact iteF (h2 h)
  · rw [decide_eq_false h]
    exact iteT (h1 h)
theorem Same.free {H H' : Hp} {p : Addr} (s : Same H H') (h : H' p = none) : H p = none := by
  cases e : H p with
  | none => rfl
  | some o =>
    rw [s _ _ e] at h
    cases h
structure Zs (mg : Str → Option Value) : Prop where
  isinstance : mg "isinstance" = none
  int : mg "int" = none
  bool : mg "bool" = none
  tuple : mg "tuple" = none
  len : mg "len" = none
  abs : mg "abs" = none
  list : mg "list" = none
  all : mg "all" = none
  sum : mg "sum" = none
  zip : mg "zip" = none
  range : mg "range" = none
  reversed : mg "reversed" = none
  enumerate : mg "enumerate" = none
  max : mg "max" = none
section
variable {P : Program} {w : World} {K : PySem.W.Frag} {mg : Str → Option Value} {base : Heap}
theorem sc_is_whole : FnScope ["thing"] ["thing"] (defScope s_is_whole) := ⟨rfl, rfl, rfl, by decide +kernel, rfl, by decide +kernel, by decide +kernel⟩
theorem ok_is_whole {f : Addr} {fd : FuncData} {k : Nat} (F : Fun K "is_whole" "is_whole" s_is_whole f fd) (z : Zs mg) : FnOk P w K mg base CX0 (k + 1) f fd ["thing"] (spWhole K) := by
  refine F.ok sc_is_whole (fun vs H Q E h => ?_) (fun cdv A outer s H vs Q E hr h => ?_)
  · obtain ⟨x, b, rfl, _⟩ := h
    rfl
  · obtain ⟨x, b, rfl, hw, q⟩ := h
    refine ⟨_, (pss_one (ps_ret (pe_and (pe_callB call_isi (by rfl) z.isinstance (by decide +kernel) (pa_cons (pv 0) (pa_cons (pe_bltn (v := .ty "int") (by rfl) z.int (by decide +kernel) rfl) pa_nil))) (pe_one (pe_not (pe_callB call_isi (by rfl) z.isinstance (by decide +kernel) (pa_cons (pv 0) (pa_cons (pe_bltn (v := .ty "bool") (by rfl) z.bool (by decide +kernel) rfl) pa_nil)))))))), ?_⟩
    rcases hw with ⟨i, rfl, rfl⟩ | ⟨c, rfl, rfl⟩ | ⟨rfl, t, ty, kt⟩
    · exact ⟨_, rfl, _, .ty "int", _, _, true, rfl, .ty _, .base (.int i), kit_ty (by decide +kernel), _, rfl, iteT ⟨_, rfl, _, .ty "bool", _, _, false, rfl, .ty _, .base (.int i), kit_ty (by decide +kernel), _, rfl, q⟩⟩
    · exact ⟨_, rfl, _, .ty "int", _, _, true, rfl, .ty _, .base (.bl c), kit_ty (by decide +kernel), _, rfl, iteT ⟨_, rfl, _, .ty "bool", _, _, true, rfl, .ty _, .base (.bl c), kit_ty (by decide +kernel), _, rfl, q⟩⟩
    · exact ⟨_, rfl, _, .ty "int", _, _, false, rfl, .ty _, ty, kit_ty kt, _, rfl, iteF q⟩
theorem sc_shared_divisor : FnScope ["top", "bottom", "one", "other"] ["top", "bottom"] (defScope s_shared_divisor) := ⟨rfl, rfl, rfl, by decide +kernel, rfl, by decide +kernel, by decide +kernel⟩
theorem ok_shared_divisor {f : Addr} {fd : FuncData} {k : Nat} (F : Fun K "shared_divisor" "shared_divisor" s_shared_divisor f fd) (z : Zs mg) : FnOk P w K mg base CX0 (k + 1) f fd ["top", "bottom"] spShared := by
  refine F.ok sc_shared_divisor (fun vs H Q E h => ?_) (fun cdv A outer s H vs Q E hr h => ?_)
  · obtain ⟨t, b, rfl, _⟩ := h
    rfl
  · obtain ⟨t, b, rfl, hb, q⟩ := h
    refine ⟨_, (pss_cons (ps_set (i := 2) sc_shared_divisor.nd rfl (.inl rfl) (pe_callB call_abs (by rfl) z.abs (by decide +kernel) (pa_cons (pv 0) pa_nil)))
      (pss_cons (ps_set (i := 3) sc_shared_divisor.nd rfl (.inl rfl) (pv 1))
      (pss_cons (ps_while PassesOwn.never (pt_truth (pv 3) (by intro _; rfl)) (pss_one (ps_par (i := 2) (j := 3) (by rfl) sc_shared_divisor.nd rfl rfl (by decide) rfl rfl (pa_cons (pv 3) (pa_cons (pe_op op_mod (pv 2) (pv 3)) pa_nil)) (by rfl))))
      (pss_one (ps_ret (pv 2)))))), ?_⟩
    refine ⟨_, rfl, _, rfl, ?_⟩
    refine ⟨_, rfl, ?_⟩
    dsimp only [gName, tSeq]
    refine while_by (fun σ H' => H' = H ∧ ∃ m n : Nat, σ = [some (.int t), some (.int b), some (.int (m : Int)), some (.int (n : Int))] ∧ Nat.gcd m n = Int.gcd t b)
      (fun σ _ => match σ with | [_, _, _, some (.int r)] => r.toNat | _ => 0) ⟨rfl, t.natAbs, b.natAbs, ?_, rfl⟩ (fun σ H1 hP => ?_) (fun σ H Q Q' m hh => ?_)
    · have e1 : (if t < 0 then -t else t) = (t.natAbs : Int) := by split <;> omega
      have e2 : b = (b.natAbs : Int) := by omega
      show [some (V.int t), some (V.int b), some (V.int (if t < 0 then -t else t)), some (V.int b)] = _
      rw [e1, ← e2]
    · obtain ⟨rfl, m, n, rfl, hg⟩ := hP
      refine ⟨_, rfl, _, rfl, ?_⟩
      by_cases hn : n = 0
      · subst hn
        have e : ((((0 : Nat) : Int)) != 0) = false := rfl
        rw [e]
        refine iteF ⟨_, rfl, ?_⟩
        rw [Nat.gcd_zero_right] at hg
        have e2 : (m : Int) = gI t b := by
          unfold gI
          rw [hg]
        rw [e2]
        exact q
      · have e : ((n : Int) != 0) = true := by
          rw [bne_iff_ne]
          omega
        rw [e]
        refine iteT ⟨_, rfl, _, rfl, _, rfl, _, _, rfl, rfl, (by omega), _, _, rfl, ⟨⟨rfl, n, m % n, rfl, ?_⟩, ?_⟩⟩
        · rw [← hg, Nat.gcd_comm n (m % n), ← Nat.gcd_rec n m, Nat.gcd_comm]
        · show ((m : Int) % (n : Int)).toNat < ((n : Int)).toNat
          have := Int.emod_lt_of_pos (m : Int) (show (0 : Int) < n by omega)
          have := Int.emod_nonneg (m : Int) (show (n : Int) ≠ 0 by omega)
          omega
    · obtain ⟨v, e, kk, tv, hq⟩ := hh
      exact ⟨v, e, kk, tv, m _ _ hq⟩
theorem sc_lowest : FnScope ["top", "bottom", "shared"] ["top", "bottom"] (defScope s_lowest) := ⟨rfl, rfl, rfl, by decide +kernel, rfl, by decide +kernel, by decide +kernel⟩
theorem ok_lowest {f : Addr} {fd : FuncData} (F : Fun K "lowest" "lowest" s_lowest f fd) (c_shared_divisor : Cal P w K mg base 1 "shared_divisor" ["top", "bottom"] spShared) : FnOk P w K mg base CX0 2 f fd ["top", "bottom"] spLow := by
  refine F.ok sc_lowest (fun vs H Q E h => ?_) (fun cdv A outer s H vs Q E hr h => ?_)
  · obtain ⟨t, b, rfl, _⟩ := h
    rfl
  · obtain ⟨t, b, rfl, hb, hl, q⟩ := h
    refine ⟨_, (pss_cons (ps_if (pt_cmpR op_lt (pv 1) pe_int (nomark _)) (pss_cons (ps_set (i := 0) sc_lowest.nd rfl (.inl rfl) (pe_un un_neg (pv 0)))
      (pss_one (ps_set (i := 1) sc_lowest.nd rfl (.inl rfl) (pe_un un_neg (pv 1))))) pss_nil)
      (pss_cons (ps_set (i := 2) sc_lowest.nd rfl (.inl rfl) (pe_cal c_shared_divisor hr (pa_cons (pv 0) (pa_cons (pv 1) pa_nil))))
      (pss_one (ps_ret (pe_tup (pa_cons (pe_op op_fdivW (pv 0) (pv 2)) (pa_cons (pe_op op_fdivW (pv 1) (pv 2)) pa_nil))))))), ?_⟩
    have g0 := gI_pos (t := t) hb
    have g1 : (gI t b).natAbs < 2 ^ 4000 := Nat.lt_of_le_of_lt (gI_le hb) hl
    refine ⟨_, rfl, _, _, rfl, rfl, _, rfl, ite2 (fun c => ?_) (fun c => ?_)⟩
    · have hc := toB c
      refine ⟨_, rfl, _, rfl, ?_⟩
      refine ⟨_, rfl, _, rfl, ?_⟩
      refine ⟨_, rfl, _, rfl, -t, -b, rfl, by omega, ?_⟩
      rw [gI_neg]
      refine ⟨_, rfl, _, rfl, _, _, rfl, rfl, wide_div g0 g1 (by decide) (by decide), _, rfl, _, rfl, _, _, rfl, rfl, wide_div g0 g1 (by decide) (by decide), (by show 2 ≤ sizeLine; decide), fun p hp => ?_⟩
      have := q p hp
      unfold lowT lowB at this
      rw [if_pos hc, if_pos hc] at this
      exact this
    · have hc := toNB c
      refine ⟨_, rfl, _, rfl, t, b, rfl, by omega, ?_⟩
      refine ⟨_, rfl, _, rfl, _, _, rfl, rfl, wide_div g0 g1 (by decide) (by decide), _, rfl, _, rfl, _, _, rfl, rfl, wide_div g0 g1 (by decide) (by decide), (by show 2 ≤ sizeLine; decide), fun p hp => ?_⟩
      have := q p hp
      unfold lowT lowB at this
      rw [if_neg hc, if_neg hc] at this
      exact this
theorem sc_is_fraction : FnScope ["thing", "top", "bottom"] ["thing"] (defScope s_is_fraction) := ⟨rfl, rfl, rfl, by decide +kernel, rfl, by decide +kernel, by decide +kernel⟩
theorem ok_is_fraction {f : Addr} {fd : FuncData} (F : Fun K "is_fraction" "is_fraction" s_is_fraction f fd) (z : Zs mg) (c_is_whole : Cal P w K mg base 1 "is_whole" ["thing"] (spWhole K)) (c_shared_divisor : Cal P w K mg base 1 "shared_divisor" ["top", "bottom"] spShared) : FnOk P w K mg base CX0 2 f fd ["thing"] spIsFrac := by
  refine F.ok sc_is_fraction (fun vs H Q E h => ?_) (fun cdv A outer s H vs Q E hr h => ?_)
  · obtain ⟨a, t, u, rfl, _⟩ := h
    rfl
  · obtain ⟨a, t, u, rfl, ha, hu, q⟩ := h
    refine ⟨_, (pss_cons (ps_if (PW.pt (pw_or (pt_not (pt_val (pe_callB call_isi (by rfl) z.isinstance (by decide +kernel) (pa_cons (pv 0) (pa_cons (pe_bltn (v := .ty "tuple") (by rfl) z.tuple (by decide +kernel) rfl) pa_nil))))) (pw_or1 (pt_cmpR op_ne (pe_callB call_len_seq (by rfl) z.len PySem.boot_len (pa_cons (pv 0) pa_nil)) pe_int (nomark _))))) (pss_one (ps_ret pe_bl)) pss_nil)
      (pss_cons (ps_asg (pv 0) (pg_tup (by rfl) (pgs_cons (pg_name (i := 1) sc_is_fraction.nd rfl (.inl rfl)) (pgs_cons (pg_name (i := 2) sc_is_fraction.nd rfl (.inl rfl)) pgs_nil))))
      (pss_cons (ps_if (PW.pt (pw_or (pt_not (pt_val (pe_cal c_is_whole hr (pa_cons (pv 1) pa_nil)))) (pw_or (pt_not (pt_val (pe_cal c_is_whole hr (pa_cons (pv 2) pa_nil)))) (pw_or1 (pt_cmpR op_lt (pv 2) pe_int (nomark _)))))) (pss_one (ps_ret pe_bl)) pss_nil)
      (pss_one (ps_ret (pe_cmpR op_eq (pe_cal c_shared_divisor hr (pa_cons (pv 1) (pa_cons (pv 2) pa_nil))) pe_int (nomark _))))))), ?_⟩
    refine ⟨_, rfl, _, .ty "tuple", _, _, true, rfl, .ty _, .base (.tup ha), kit_ty (by decide +kernel), _, rfl, iteF ⟨_, rfl, a, _, rfl, .inr (SqT.of ha), rfl, _, rfl, iteF ?_⟩⟩
    refine ⟨_, rfl, a, _, rfl, SqT.of ha, rfl, _, _, rfl, _, _, rfl, rfl, ?_⟩
    refine ⟨_, rfl, _, _, rfl, .int t, _, rfl, iteF ⟨_, rfl, _, _, rfl, .int u, _, rfl, iteF ⟨_, rfl, _, _, rfl, rfl, _, rfl, ite2 (fun c => ?_) (fun c => ?_)⟩⟩⟩
    · have := toB c
      omega
    · refine ⟨_, rfl, _, rfl, t, u, rfl, by omega, rfl, ?_⟩
      have e : (decide (V.int (gI t u) = V.int 1)) = decide (gI t u = 1) := by
        by_cases h : gI t u = 1
        · rw [h]
          rfl
        · rw [decide_eq_false h, decide_eq_false (fun z => h (V.int.inj z))]
      rw [e]
      exact q
end
end E1

namespace E1
open PySem PySem.Spec PyProof.Rows L2
/-! ### sums and convolutions of fractions -/
def sg (f : Nat → Rat) : Nat → Rat
  | 0 => 0
  | n + 1 => sg f n + f n
theorem sg_congr {f g : Nat → Rat} : ∀ n, (∀ i, i < n → f i = g i) → sg f n = sg g n
  | 0, _ => rfl
  | n + 1, h => by
    show sg f n + f n = sg g n + g n
    rw [sg_congr n fun i hi => h i (by omega), h n (by omega)]
theorem sg_zero {f : Nat → Rat} (n : Nat) (h : ∀ i, i < n → f i = 0) : sg f n = 0 := by
  induction n with
  | zero => rfl
  | succ n ih =>
    show sg f n + f n = 0
    rw [ih fun i hi => h i (by omega), h n (by omega)]
    grind
theorem sg_first (f : Nat → Rat) : ∀ n, sg f (n + 1) = f 0 + sg (fun i => f (i + 1)) n
  | 0 => by
    show 0 + f 0 = f 0 + 0
    grind
  | n + 1 => by
    show sg f (n + 1) + f (n + 1) = f 0 + (sg (fun i => f (i + 1)) n + f (n + 1))
    rw [sg_first f n]
    grind
theorem sg_mul (c : Rat) (f : Nat → Rat) : ∀ n, sg (fun i => c * f i) n = c * sg f n
  | 0 => by
    show (0 : Rat) = c * 0
    grind
  | n + 1 => by
    show sg (fun i => c * f i) n + c * f n = c * (sg f n + f n)
    rw [sg_mul c f n]
    grind
theorem sg_add (f g : Nat → Rat) : ∀ n, sg (fun i => f i + g i) n = sg f n + sg g n
  | 0 => by
    show (0 : Rat) = 0 + 0
    grind
  | n + 1 => by
    show sg (fun i => f i + g i) n + (f n + g n) = sg f n + f n + (sg g n + g n)
    rw [sg_add f g n]
    grind
/-- the place m of the product -/
def cv (f g : Nat → Rat) (m : Nat) : Rat := sg (fun i => f i * g (m - i)) (m + 1)
theorem cv_zero (f g : Nat → Rat) : cv f g 0 = f 0 * g 0 := by
  show 0 + f 0 * g 0 = f 0 * g 0
  grind
theorem cv_succ (f g : Nat → Rat) (m : Nat) : cv f g (m + 1) = f 0 * g (m + 1) + cv (fun i => f (i + 1)) g m := by
  unfold cv
  rw [sg_first]
  congr 1
  apply sg_congr
  intro i hi
  show f (i + 1) * g (m + 1 - (i + 1)) = f (i + 1) * g (m - i)
  rw [show m + 1 - (i + 1) = m - i by omega]
theorem cv_congr {f f' g g' : Nat → Rat} {m : Nat} (h1 : ∀ i, i ≤ m → f i = f' i) (h2 : ∀ i, i ≤ m → g i = g' i) : cv f g m = cv f' g' m := by
  unfold cv
  apply sg_congr
  intro i hi
  rw [h1 i (by omega), h2 (m - i) (by omega)]
theorem cv_lin (f g h : Nat → Rat) (c : Rat) (m : Nat) : cv f (fun i => c * g i + h i) m = c * cv f g m + cv f h m := by
  unfold cv
  rw [← sg_mul, ← sg_add]
  apply sg_congr
  intro i _
  grind
theorem cv_sub (f g h : Nat → Rat) (m : Nat) : cv f (fun i => g i - h i) m = cv f g m - cv f h m := by
  have e := cv_lin f h (fun i => g i - h i) 1 m
  have e2 : (fun i => 1 * h i + (g i - h i)) = g := by
    funext i
    grind
  rw [e2] at e
  grind
/-- the row moved on by one -/
def sh (u : Nat → Rat) : Nat → Rat
  | 0 => 0
  | n + 1 => u n
theorem cv_sh (f u : Nat → Rat) (m : Nat) : cv f (sh u) (m + 1) = cv f u m := by
  unfold cv
  show sg (fun i => f i * sh u (m + 1 - i)) (m + 1) + f (m + 1) * sh u (m + 1 - (m + 1)) = _
  rw [Nat.sub_self]
  show _ + f (m + 1) * 0 = _
  have e : sg (fun i => f i * sh u (m + 1 - i)) (m + 1) = sg (fun i => f i * u (m - i)) (m + 1) := by
    apply sg_congr
    intro i hi
    rw [show m + 1 - i = (m - i) + 1 by omega]
    rfl
  rw [e]
  grind
theorem cv_sh0 (f u : Nat → Rat) : cv f (sh u) 0 = 0 := by
  rw [cv_zero]
  show f 0 * 0 = 0
  grind
theorem cv_swap : ∀ (m : Nat) (f g h : Nat → Rat), cv f (cv g h) m = cv g (cv f h) m
  | 0, f, g, h => by
    rw [cv_zero, cv_zero, cv_zero, cv_zero]
    grind
  | m + 1, f, g, h => by
    have split : ∀ f g : Nat → Rat, cv f (cv g h) (m + 1) = f 0 * (g 0 * h (m + 1)) + f 0 * cv (fun i => g (i + 1)) h m + cv (fun i => f (i + 1)) (cv g h) m := fun f g => by
      rw [cv_succ, cv_succ]
      grind
    have inner : ∀ g : Nat → Rat, cv g h = fun i => g 0 * h i + sh (cv (fun i => g (i + 1)) h) i := fun g => by
      funext i
      cases i with
      | zero =>
        rw [cv_zero]
        show g 0 * h 0 = g 0 * h 0 + 0
        grind
      | succ i => exact cv_succ g h i
    rw [split f g, split g f]
    rw [cv_swap m (fun i => f (i + 1)) g h]
    have e1 : cv (fun i => g (i + 1)) (cv f h) m = f 0 * cv (fun i => g (i + 1)) h m + cv (fun i => g (i + 1)) (sh (cv (fun i => f (i + 1)) h)) m := by
      rw [inner f, cv_lin]
    rw [e1]
    cases m with
    | zero =>
      rw [cv_sh0, cv_zero, cv_zero]
      grind
    | succ m =>
      rw [cv_sh, cv_succ g]
      grind
/-- what vanishes ahead of k -/
theorem cv_low {f g : Nat → Rat} {k m : Nat} (h : ∀ i, i < k → g i = 0) (hm : m ≤ k) : cv f g m = if m = k then f 0 * g k else 0 := by
  cases m with
  | zero =>
    rw [cv_zero]
    split
    · next e => rw [e]
    · rw [h 0 (by omega)]
      grind
  | succ m =>
    rw [cv_succ]
    have z : cv (fun i => f (i + 1)) g m = 0 := by
      unfold cv
      apply sg_zero
      intro i hi
      rw [h (m - i) (by omega)]
      grind
    rw [z]
    split
    · next e =>
      rw [e]
      grind
    · rw [h (m + 1) (by omega)]
      grind
/-- two responses part just where the products do -/
theorem part_at {b t h b' t' h' : Nat → Rat} {n : Nat} (r : ∀ m, m ≤ n → cv b h m = t m) (r' : ∀ m, m ≤ n → cv b' h' m = t' m) (b0 : b 0 ≠ 0) (b0' : b' 0 ≠ 0) :
    ∀ k, k ≤ n → (∀ i, i < k → cv b' t i = cv b t' i) → (∀ i, i < k → h i = h' i) ∧ (h k = h' k ↔ cv b' t k = cv b t' k) := by
  have key : ∀ k, k ≤ n → (∀ i, i < k → h i = h' i) → cv b' t k - cv b t' k = b 0 * b' 0 * (h k - h' k) := fun k hk hh => by
    have e1 : cv b' t k = cv b' (cv b h) k := cv_congr (fun _ _ => rfl) fun i hi => (r i (by omega)).symm
    have e2 : cv b t' k = cv b (cv b' h') k := cv_congr (fun _ _ => rfl) fun i hi => (r' i (by omega)).symm
    rw [e1, e2, cv_swap k b' b h, ← cv_sub]
    have e3 : ∀ m, m ≤ k → cv b' h m - cv b' h' m = if m = k then b' 0 * (h k - h' k) else 0 := fun m hm => by
      rw [← cv_sub, cv_low (k := k) (fun i hi => by show h i - h' i = 0; rw [hh i hi]; grind) hm]
    rw [cv_low (k := k) (fun i hi => by rw [e3 i (by omega), if_neg (by omega)]) (Nat.le_refl k), if_pos rfl, e3 k (Nat.le_refl k), if_pos rfl]
    grind
  intro k
  induction k with
  | zero =>
    intro hk _
    refine ⟨fun i hi => absurd hi (by omega), ?_⟩
    have e := key 0 hk (fun i hi => absurd hi (by omega))
    constructor
    · intro z
      rw [z] at e
      grind
    · intro z
      rw [z] at e
      grind
  | succ k ih =>
    intro hk hh
    obtain ⟨i1, i2⟩ := ih (by omega) fun i hi => hh i (by omega)
    have all : ∀ i, i < k + 1 → h i = h' i := fun i hi => by
      by_cases c : i < k
      · exact i1 i c
      · rw [show i = k by omega]
        exact i2.mpr (hh k (by omega))
    refine ⟨all, ?_⟩
    have e := key (k + 1) hk all
    constructor
    · intro z
      rw [z] at e
      grind
    · intro z
      rw [z] at e
      grind
/-! ### lists of fractions -/
def fn (qs : List Rat) (i : Nat) : Rat := qs.getD i 0
def sumR : List Rat → Rat
  | [] => 0
  | x :: xs => x + sumR xs
def dotR : List Rat → List Rat → Rat
  | x :: xs, y :: ys => x * y + dotR xs ys
  | _, _ => 0
theorem sumR_append : ∀ xs ys : List Rat, sumR (xs ++ ys) = sumR xs + sumR ys
  | [], ys => by
    show sumR ys = 0 + sumR ys
    grind
  | x :: xs, ys => by
    show x + sumR (xs ++ ys) = x + sumR xs + sumR ys
    rw [sumR_append xs ys]
    grind
theorem fn_lt {qs : List Rat} {i : Nat} {q : Rat} (h : qs[i]? = some q) : fn qs i = q := by
  unfold fn
  rw [List.getD_eq_getElem?_getD, h]
  rfl
theorem fn_ge {qs : List Rat} {i : Nat} (h : qs.length ≤ i) : fn qs i = 0 := by
  unfold fn
  rw [List.getD_eq_getElem?_getD, List.getElem?_eq_none h]
  rfl
/-- a sum over the first n places -/
theorem sum_map (f : Nat → Rat) : ∀ n, sumR ((List.range n).map f) = sg f n
  | 0 => rfl
  | n + 1 => by
    rw [List.range_succ, List.map_append, sumR_append, sum_map f n]
    show sg f n + (f n + 0) = sg f n + f n
    grind
theorem sum_filter (f : Nat → Rat) (p : Nat → Bool) : ∀ n, sumR (((List.range n).filter p).map f) = sg (fun i => if p i = true then f i else 0) n
  | 0 => rfl
  | n + 1 => by
    rw [List.range_succ, List.filter_append, List.map_append, sumR_append, sum_filter f p n]
    show _ = sg (fun i => if p i = true then f i else 0) n + (if p n = true then f n else 0)
    congr 1
    by_cases c : p n = true
    · rw [if_pos c, List.filter_cons, if_pos c]
      show f n + 0 = f n
      grind
    · rw [if_neg c, List.filter_cons, if_neg c]
      rfl
theorem sg_more (f : Nat → Rat) (n : Nat) : ∀ m, (∀ i, n ≤ i → i < n + m → f i = 0) → sg f (n + m) = sg f n
  | 0, _ => rfl
  | m + 1, h => by
    show sg f (n + m) + f (n + m) = sg f n
    rw [sg_more f n m fun i h1 h2 => h i h1 (by omega), h (n + m) (by omega) (by omega)]
    grind
theorem sg_upto (f : Nat → Rat) {n m : Nat} (h : ∀ i, (n ≤ i ∨ m ≤ i) → f i = 0) : sg f n = sg f m := by
  by_cases c : n ≤ m
  · have e := sg_more f n (m - n) (fun i h1 _ => h i (.inl h1))
    rw [show n + (m - n) = m by omega] at e
    exact e.symm
  · have e := sg_more f m (n - m) (fun i h1 _ => h i (.inr h1))
    rw [show m + (n - m) = n by omega] at e
    exact e
/-- the law's own sum of a place -/
theorem law_place (xs ys : List Rat) (k : Nat) : sumR (((List.range xs.length).filter fun j => decide (j ≤ k ∧ k < j + ys.length)).map fun j => fn xs j * fn ys (k - j)) = cv (fn xs) (fn ys) k := by
  rw [sum_filter]
  unfold cv
  have e1 : sg (fun i => if decide (i ≤ k ∧ k < i + ys.length) = true then fn xs i * fn ys (k - i) else 0) xs.length = sg (fun i => if decide (i ≤ k ∧ k < i + ys.length) = true then fn xs i * fn ys (k - i) else 0) (k + 1) := by
    apply sg_upto
    intro i hi
    show (if decide (i ≤ k ∧ k < i + ys.length) = true then fn xs i * fn ys (k - i) else 0) = 0
    rcases hi with h | h
    · rw [fn_ge h]
      split
      · grind
      · rfl
    · rw [if_neg (by rw [decide_eq_true_eq]; omega)]
  rw [e1]
  apply sg_congr
  intro i hi
  show (if decide (i ≤ k ∧ k < i + ys.length) = true then fn xs i * fn ys (k - i) else 0) = fn xs i * fn ys (k - i)
  by_cases c : k < i + ys.length
  · rw [if_pos (by rw [decide_eq_true_eq]; omega)]
  · rw [if_neg (by rw [decide_eq_true_eq]; omega), fn_ge (qs := ys) (by omega)]
    grind
/-- two lists place by place -/
theorem dot_map (f g : Nat → Rat) (n : Nat) : ∀ m, dotR ((List.range' n m).map f) ((List.range' n m).map g) = sg (fun i => f (n + i) * g (n + i)) m := by
  intro m
  induction m generalizing n with
  | zero => rfl
  | succ m ih =>
    rw [List.range'_succ, List.map_cons, List.map_cons]
    show f n * g n + dotR ((List.range' (n + 1) m).map f) ((List.range' (n + 1) m).map g) = _
    rw [ih (n + 1), sg_first]
    congr 1
    apply sg_congr
    intro i _
    rw [show n + 1 + i = n + (i + 1) by omega]
theorem drop_range {xs : List Rat} {n m : Nat} (h : n + m ≤ xs.length) : (xs.drop n).take m = (List.range' n m).map (fn xs) := by
  apply List.ext_getElem?
  intro i
  rw [List.getElem?_take, List.getElem?_drop, List.getElem?_map]
  by_cases c : i < m
  · rw [if_pos c, List.getElem?_range' c, List.getElem?_eq_getElem (show n + i < xs.length by omega)]
    show _ = some (fn xs (n + 1 * i))
    rw [Nat.one_mul, fn_lt (List.getElem?_eq_getElem (show n + i < xs.length by omega))]
  · rw [if_neg c, List.getElem?_eq_none (by rw [List.length_range']; omega)]
    rfl
/-- the program's own sum of a place -/
theorem prog_place (xs ys : List Rat) (k : Nat) {f m : Nat} (hf : f = k + 1 - ys.length) (hm : m = min (k + 1) xs.length - f) : dotR ((List.range' f m).map (fn xs)) ((List.range' f m).map fun j => fn ys (k - j)) = cv (fn xs) (fn ys) k := by
  rw [dot_map]
  unfold cv
  have low : sg (fun i => fn xs i * fn ys (k - i)) f = 0 := sg_zero f fun i hi => by
    rw [fn_ge (qs := ys) (by omega)]
    grind
  have cut : ∀ m, sg (fun i => fn xs i * fn ys (k - i)) (f + m) = sg (fun i => fn xs (f + i) * fn ys (k - (f + i))) m := by
    intro m
    induction m with
    | zero => exact low
    | succ m ih =>
      show sg (fun i => fn xs i * fn ys (k - i)) (f + m) + fn xs (f + m) * fn ys (k - (f + m)) = sg (fun i => fn xs (f + i) * fn ys (k - (f + i))) m + fn xs (f + m) * fn ys (k - (f + m))
      rw [ih]
  rw [← cut m]
  by_cases c : k + 1 ≤ xs.length
  · by_cases c2 : f ≤ k + 1
    · rw [show f + m = k + 1 by omega]
    · omega
  · by_cases c2 : f ≤ xs.length
    · rw [show f + m = xs.length by omega]
      have := sg_more (fun i => fn xs i * fn ys (k - i)) xs.length (k + 1 - xs.length) fun i h1 _ => by
        show fn xs i * fn ys (k - i) = 0
        rw [fn_ge h1]
        grind
      rw [show xs.length + (k + 1 - xs.length) = k + 1 by omega] at this
      exact this.symm
    · have m0 : m = 0 := by omega
      rw [m0, Nat.add_zero, low]
      symm
      apply sg_zero
      intro i hi
      show fn xs i * fn ys (k - i) = 0
      by_cases c3 : i < xs.length
      · rw [fn_ge (qs := ys) (by omega)]
        grind
      · rw [fn_ge (qs := xs) (by omega)]
        grind
/-! ### the response -/
/-- the next place behind the row -/
def nxt (t b row : List Rat) : Rat := (fn t row.length - dotR b.tail row.reverse) / fn b 0
def quo (t b : List Rat) : Nat → List Rat
  | 0 => []
  | n + 1 => quo t b n ++ [nxt t b (quo t b n)]
theorem quo_len (t b : List Rat) : ∀ n, (quo t b n).length = n
  | 0 => rfl
  | n + 1 => by
    show (quo t b n ++ [nxt t b (quo t b n)]).length = n + 1
    rw [List.length_append, quo_len t b n]
    rfl
theorem dot_sg : ∀ xs ys : List Rat, dotR xs ys = sg (fun i => fn xs i * fn ys i) ys.length
  | [], ys => by
    symm
    show sg _ _ = 0
    apply sg_zero
    intro i _
    rw [fn_ge (Nat.zero_le _)]
    grind
  | x :: xs, [] => rfl
  | x :: xs, y :: ys => by
    show x * y + dotR xs ys = sg _ (ys.length + 1)
    rw [sg_first, dot_sg xs ys]
    rfl
theorem fn_tail (b : List Rat) (i : Nat) : fn b.tail i = fn b (i + 1) := by
  cases b with
  | nil => rfl
  | cons x xs => rfl
theorem fn_rev (row : List Rat) {i : Nat} (h : i < row.length) : fn row.reverse i = fn row (row.length - 1 - i) := by
  unfold fn
  rw [List.getD_eq_getElem?_getD, List.getD_eq_getElem?_getD, List.getElem?_reverse h]
theorem quo_fn (t b : List Rat) {i : Nat} : ∀ {n m : Nat}, i < n → n ≤ m → fn (quo t b m) i = fn (quo t b n) i := by
  intro n m h1 h2
  induction m with
  | zero => omega
  | succ m ih =>
    by_cases c : n ≤ m
    · rw [← ih c]
      show fn (quo t b m ++ [_]) i = _
      unfold fn
      rw [List.getD_eq_getElem?_getD, List.getD_eq_getElem?_getD, List.getElem?_append_left (by rw [quo_len]; omega)]
    · rw [show n = m + 1 by omega]
theorem quo_ok (t b : List Rat) (b0 : fn b 0 ≠ 0) (n k : Nat) (h : k < n) : cv (fn b) (fn (quo t b n)) k = fn t k := by
  have e0 : cv (fn b) (fn (quo t b n)) k = cv (fn b) (fn (quo t b (k + 1))) k := cv_congr (fun _ _ => rfl) fun i hi => quo_fn t b (show i < k + 1 by omega) (by omega)
  rw [e0]
  have last : fn (quo t b (k + 1)) k = nxt t b (quo t b k) := by
    show fn (quo t b k ++ [nxt t b (quo t b k)]) k = _
    apply fn_lt
    rw [List.getElem?_append_right (by rw [quo_len]; exact Nat.le_refl _), quo_len, Nat.sub_self]
    rfl
  have den : fn b 0 * nxt t b (quo t b k) = fn t k - dotR b.tail (quo t b k).reverse := by
    unfold nxt
    rw [quo_len]
    grind
  unfold cv
  rw [sg_first]
  show fn b 0 * fn (quo t b (k + 1)) (k - 0) + _ = _
  rw [Nat.sub_zero, last, den, dot_sg, List.length_reverse, quo_len]
  have e : sg (fun i => fn b (i + 1) * fn (quo t b (k + 1)) (k - (i + 1))) k = sg (fun i => fn b.tail i * fn (quo t b k).reverse i) k := by
    apply sg_congr
    intro i hi
    rw [fn_tail, fn_rev _ (by rw [quo_len]; exact hi), quo_len, show k - (i + 1) = k - 1 - i by omega]
    rw [quo_fn t b (n := k) (m := k + 1) (by omega) (by omega)]
  rw [e]
  grind
/-! ### fractions in lowest terms -/
theorem lowT_num {t b : Int} (hb : b ≠ 0) : lowT t b = (Rat.divInt t b).num := by
  rw [Rat.num_divInt]
  unfold lowT gI
  rw [Int.gcd_comm b t]
  split
  · next h =>
    rw [Int.sign_eq_neg_one_of_neg h, Int.neg_mul, Int.one_mul]
  · next h =>
    rw [Int.sign_eq_one_of_pos (by omega), Int.one_mul]
theorem lowB_den {t b : Int} (hb : b ≠ 0) : lowB t b = ((Rat.divInt t b).den : Int) := by
  rw [Rat.den_divInt, if_neg hb]
  unfold lowB gI
  rw [Int.gcd_comm b t, Int.natCast_ediv]
  congr 1
  split <;> omega
theorem den_ne (q : Rat) : (q.den : Int) ≠ 0 := by
  have := q.den_pos
  omega
theorem den_ge (q : Rat) : (0 : Int) < q.den := by
  have := q.den_pos
  omega
theorem q_eq (q : Rat) : q * (q.den : Int) = (q.num : Rat) := by
  have h := Rat.num_divInt_den q
  rw [Rat.divInt_eq_div] at h
  have d : ((q.den : Int) : Rat) ≠ 0 := by
    intro z
    have : (q.den : Int) = 0 := by exact_mod_cast z
    exact den_ne q this
  grind
theorem cast_ne {n : Int} (h : n ≠ 0) : (n : Rat) ≠ 0 := fun z => h (by exact_mod_cast z)
theorem div_q {t b : Int} (h : b ≠ 0) : Rat.divInt t b * (b : Rat) = (t : Rat) := by
  rw [Rat.divInt_eq_div]
  have := cast_ne h
  grind
theorem div_is {t b : Int} (h : b ≠ 0) {q : Rat} (e : q * (b : Rat) = (t : Rat)) : Rat.divInt t b = q := by
  have := div_q (t := t) h
  have := cast_ne h
  grind
theorem minus_q (q r : Rat) : Rat.divInt (q.num * r.den - r.num * q.den) (q.den * r.den) = q - r := by
  apply div_is (Int.mul_ne_zero (den_ne q) (den_ne r))
  have a := q_eq q
  have b := q_eq r
  push_cast at *
  grind
theorem times_q (q r : Rat) : Rat.divInt (q.num * r.num) (q.den * r.den) = q * r := by
  apply div_is (Int.mul_ne_zero (den_ne q) (den_ne r))
  have a := q_eq q
  have b := q_eq r
  push_cast at *
  grind
theorem num_ne {q : Rat} (h : q ≠ 0) : q.num ≠ 0 := fun z => by
  have a := q_eq q
  rw [z] at a
  have d := cast_ne (den_ne q)
  have : ((0 : Int) : Rat) = 0 := rfl
  grind
theorem num_eq {q : Rat} (h : q.num = 0) : q = 0 := by
  by_cases c : q = 0
  · exact c
  · exact absurd h (num_ne c)
theorem divided_q (q r : Rat) (h : r ≠ 0) : Rat.divInt (q.num * r.den) (q.den * r.num) = q / r := by
  apply div_is (Int.mul_ne_zero (den_ne q) (num_ne h))
  have a := q_eq q
  have b := q_eq r
  have d1 := cast_ne (den_ne q)
  have d2 := cast_ne (den_ne r)
  push_cast at *
  grind
theorem q_gcd (q : Rat) : gI q.num q.den = 1 := by
  have := q.reduced
  unfold gI
  show ((Nat.gcd q.num.natAbs (q.den : Int).natAbs : Nat) : Int) = 1
  rw [Int.natAbs_natCast, this]
  rfl
/-! ### sizes -/
def Sc (D : Int) (B : Nat) (q : Rat) : Prop := ∃ n : Int, q * (D : Rat) = (n : Rat) ∧ n.natAbs ≤ B
theorem Sc.cross {D : Int} {B : Nat} {q : Rat} (h : Sc D B q) : ∃ n : Int, q.num * D = n * q.den ∧ n.natAbs ≤ B := by
  obtain ⟨n, e, b⟩ := h
  refine ⟨n, ?_, b⟩
  have a := q_eq q
  have : ((q.num * D : Int) : Rat) = ((n * q.den : Int) : Rat) := by
    push_cast
    push_cast at a
    grind
  exact_mod_cast this
theorem Sc.den {D : Int} {B : Nat} {q : Rat} (h : Sc D B q) : (q.den : Int) ∣ D := by
  obtain ⟨n, e, _⟩ := h.cross
  have d : q.den ∣ q.num.natAbs * D.natAbs := by
    have e2 := congrArg Int.natAbs e
    rw [Int.natAbs_mul, Int.natAbs_mul, Int.natAbs_natCast] at e2
    exact ⟨n.natAbs, by rw [e2, Nat.mul_comm]⟩
  have g : Nat.Coprime q.den q.num.natAbs := Nat.Coprime.symm q.reduced
  have := g.dvd_of_dvd_mul_left d
  exact Int.dvd_natAbs.mp (by exact_mod_cast this)
theorem Sc.num {D : Int} {B : Nat} {q : Rat} (h : Sc D B q) (hD : D ≠ 0) : q.num.natAbs ≤ B := by
  have dv := h.den
  obtain ⟨n, e, b⟩ := h.cross
  have l : q.den ≤ D.natAbs := by
    have : (q.den : Int).natAbs ∣ D.natAbs := Int.natAbs_dvd_natAbs.mpr dv
    rw [Int.natAbs_natCast] at this
    exact Nat.le_of_dvd (by omega) this
  have e2 := congrArg Int.natAbs e
  rw [Int.natAbs_mul, Int.natAbs_mul, Int.natAbs_natCast] at e2
  have h1 : q.num.natAbs * D.natAbs ≤ n.natAbs * D.natAbs := by
    rw [e2]
    exact Nat.mul_le_mul_left _ l
  exact Nat.le_trans (Nat.le_of_mul_le_mul_right h1 (by omega)) b
theorem Sc.mono {D : Int} {B C : Nat} {q : Rat} (h : Sc D B q) (l : B ≤ C) : Sc D C q := by
  obtain ⟨n, e, b⟩ := h
  exact ⟨n, e, by omega⟩
theorem Sc.scale {D k : Int} {B : Nat} {q : Rat} (h : Sc D B q) : Sc (D * k) (B * k.natAbs) q := by
  obtain ⟨n, e, b⟩ := h
  refine ⟨n * k, ?_, ?_⟩
  · push_cast
    grind
  · rw [Int.natAbs_mul]
    exact Nat.mul_le_mul_right _ b
theorem Sc.add {D : Int} {B C : Nat} {q r : Rat} (h : Sc D B q) (g : Sc D C r) : Sc D (B + C) (q + r) := by
  obtain ⟨n, e, b⟩ := h
  obtain ⟨m, f, c⟩ := g
  refine ⟨n + m, ?_, by omega⟩
  push_cast
  grind
theorem Sc.mul {D E : Int} {B C : Nat} {q r : Rat} (h : Sc D B q) (g : Sc E C r) : Sc (D * E) (B * C) (q * r) := by
  obtain ⟨n, e, b⟩ := h
  obtain ⟨m, f, c⟩ := g
  refine ⟨n * m, ?_, by rw [Int.natAbs_mul]; exact Nat.mul_le_mul b c⟩
  push_cast
  grind
theorem Sc.zero {D : Int} {B : Nat} : Sc D B 0 := ⟨0, by push_cast; grind, Nat.zero_le _⟩
/-- the step of a response, with whole numbers -/
theorem horner {D β0 : Int} {B C : Nat} (hB : β0.natAbs ≤ B) (hC : 6 * B ≤ C) : ∀ (bs hs : List Rat) (k : Nat), (∀ b ∈ bs, Sc D B b) → (∀ i q, hs[i]? = some q → i < k ∧ Sc (β0 ^ (k - i)) (C ^ (k - i)) q) →
    ∃ S : Int, dotR bs hs * (D : Rat) * ((β0 ^ k : Int) : Rat) = (S : Rat) ∧ 5 * S.natAbs ≤ C ^ (k + 1)
  | [], hs, k, _, _ => ⟨0, by show (0 : Rat) * _ * _ = _; push_cast; grind, by simp⟩
  | b :: bs, [], k, _, _ => ⟨0, by show (0 : Rat) * _ * _ = _; push_cast; grind, by simp⟩
  | b :: bs, h :: hs, k, h1, h2 => by
    obtain ⟨k0, m, em, bm⟩ := h2 0 h rfl
    obtain ⟨j, rfl⟩ : ∃ j, k = j + 1 := ⟨k - 1, by omega⟩
    obtain ⟨S, eS, bS⟩ := horner hB hC bs hs j (fun x hx => h1 x (List.mem_cons_of_mem _ hx)) fun i q hq => by
      obtain ⟨l1, l2⟩ := h2 (i + 1) q hq
      rw [show j + 1 - (i + 1) = j - i by omega] at l2
      exact ⟨by omega, l2⟩
    obtain ⟨n, en, bn⟩ := h1 b List.mem_cons_self
    refine ⟨n * m + β0 * S, ?_, ?_⟩
    · show (b * h + dotR bs hs) * (D : Rat) * ((β0 ^ (j + 1) : Int) : Rat) = _
      rw [Nat.sub_zero] at em
      have p : ((β0 ^ (j + 1) : Int) : Rat) = (β0 : Rat) * ((β0 ^ j : Int) : Rat) := by
        rw [Int.pow_succ]
        push_cast
        grind
      push_cast at *
      grind
    · rw [Nat.sub_zero] at bm
      have t1 : (n * m).natAbs ≤ B * C ^ (j + 1) := by
        rw [Int.natAbs_mul]
        exact Nat.mul_le_mul bn bm
      have t2 : (β0 * S).natAbs ≤ B * S.natAbs := by
        rw [Int.natAbs_mul]
        exact Nat.mul_le_mul_right _ hB
      have t3 := Int.natAbs_add_le (n * m) (β0 * S)
      have t4 : 5 * (B * S.natAbs) ≤ B * C ^ (j + 1) := by
        rw [show 5 * (B * S.natAbs) = B * (5 * S.natAbs) by rw [← Nat.mul_assoc, Nat.mul_comm 5 B, Nat.mul_assoc]]
        exact Nat.mul_le_mul_left _ bS
      have t5 : 6 * (B * C ^ (j + 1)) ≤ C ^ (j + 1 + 1) := by
        rw [← Nat.mul_assoc, Nat.pow_succ C (j + 1), Nat.mul_comm (C ^ (j + 1)) C]
        exact Nat.mul_le_mul_right _ hC
      omega
theorem nxt_sc {D β0 : Int} {B C : Nat} {t b row : List Rat} (hD : D ≠ 0) (h0 : fn b 0 * (D : Rat) = (β0 : Rat)) (hn : β0 ≠ 0) (hB : β0.natAbs ≤ B) (hC : 6 * B ≤ C) (hb : ∀ x ∈ b, Sc D B x) (ht : ∀ i, Sc D B (fn t i))
    (hr : ∀ i q, row[i]? = some q → Sc (β0 ^ (i + 1)) (C ^ (i + 1)) q) : Sc (β0 ^ (row.length + 1)) (C ^ (row.length + 1)) (nxt t b row) := by
  obtain ⟨S, eS, bS⟩ := horner hB hC b.tail row.reverse row.length (fun x hx => hb x (List.mem_of_mem_tail hx)) fun i q hq => by
    have li : i < row.length := by
      have := (List.getElem?_eq_some_iff.mp hq).1
      rw [List.length_reverse] at this
      exact this
    rw [List.getElem?_reverse li] at hq
    have := hr _ q hq
    rw [show row.length - 1 - i + 1 = row.length - i by omega] at this
    exact ⟨li, this⟩
  obtain ⟨τ, eτ, bτ⟩ := ht row.length
  refine ⟨τ * β0 ^ row.length - S, ?_, ?_⟩
  · unfold nxt
    have b0 : fn b 0 ≠ 0 := fun z => by
      rw [z] at h0
      have := cast_ne hn
      grind
    have p : ((β0 ^ (row.length + 1) : Int) : Rat) = (β0 : Rat) * ((β0 ^ row.length : Int) : Rat) := by
      rw [Int.pow_succ]
      push_cast
      grind
    rw [p]
    push_cast at *
    grind
  · have t1 : (τ * β0 ^ row.length).natAbs ≤ B * B ^ row.length := by
      rw [Int.natAbs_mul, Int.natAbs_pow]
      exact Nat.mul_le_mul bτ (Nat.pow_le_pow_left hB _)
    have t2 : 6 * (B * B ^ row.length) ≤ C ^ (row.length + 1) := by
      rw [← Nat.mul_assoc, Nat.pow_succ, Nat.mul_comm (C ^ row.length) C]
      exact Nat.mul_le_mul hC (Nat.pow_le_pow_left (by omega) _)
    have t3 := Int.natAbs_sub_le (τ * β0 ^ row.length) S
    omega
theorem quo_sc {D β0 : Int} {B C : Nat} {t b : List Rat} (hD : D ≠ 0) (h0 : fn b 0 * (D : Rat) = (β0 : Rat)) (hn : β0 ≠ 0) (hB : β0.natAbs ≤ B) (hC : 6 * B ≤ C) (hb : ∀ x ∈ b, Sc D B x) (ht : ∀ i, Sc D B (fn t i)) :
    ∀ n i q, (quo t b n)[i]? = some q → Sc (β0 ^ (i + 1)) (C ^ (i + 1)) q
  | 0, i, q, h => by
    have : ([] : List Rat)[i]? = some q := h
    cases this
  | n + 1, i, q, h => by
    have h' : (quo t b n ++ [nxt t b (quo t b n)])[i]? = some q := h
    by_cases c : i < n
    · rw [List.getElem?_append_left (by rw [quo_len]; exact c)] at h'
      exact quo_sc hD h0 hn hB hC hb ht n i q h'
    · have li := (List.getElem?_eq_some_iff.mp h').1
      rw [List.length_append, quo_len] at li
      have e : i = n := by
        have : i < n + 1 := li
        omega
      subst e
      rw [List.getElem?_append_right (by rw [quo_len]; exact Nat.le_refl _), quo_len, Nat.sub_self] at h'
      cases h'
      have := nxt_sc hD h0 hn hB hC hb ht (row := quo t b i) fun j r hr => quo_sc hD h0 hn hB hC hb ht i j r hr
      rw [quo_len] at this
      exact this
/-! ### one bottom for all -/
def lcmI (c b : Int) : Int := if c % b = 0 then c else c / gI c b * b
theorem gI_dl (c b : Int) : gI c b ∣ c := by
  unfold gI
  exact Int.gcd_dvd_left ..
theorem gI_dr (c b : Int) : gI c b ∣ b := by
  unfold gI
  exact Int.gcd_dvd_right ..
theorem lcmI_ok {c b : Int} (hc : 0 < c) (hb : 0 < b) : 0 < lcmI c b ∧ c ∣ lcmI c b ∧ b ∣ lcmI c b ∧ ∀ D, c ∣ D → b ∣ D → lcmI c b ∣ D := by
  unfold lcmI
  split
  · next h => exact ⟨hc, Int.dvd_refl c, Int.dvd_of_emod_eq_zero h, fun D h1 _ => h1⟩
  · have g0 := gI_pos (t := c) (b := b) (by omega)
    obtain ⟨x, hx⟩ := gI_dl c b
    obtain ⟨y, hy⟩ := gI_dr c b
    have cop : Nat.gcd x.natAbs y.natAbs = 1 := by
      have h := Int.gcd_mul_left (gI c b) x y
      rw [← hx, ← hy] at h
      have h2 : Int.gcd c b = (gI c b).natAbs := by
        unfold gI
        rw [Int.natAbs_natCast]
      rw [h2] at h
      have : (gI c b).natAbs * 1 = (gI c b).natAbs * Int.gcd x y := by
        rw [Nat.mul_one]
        exact h
      exact (Nat.eq_of_mul_eq_mul_left (by omega) this).symm
    generalize gI c b = g at *
    have ex : c / g = x := Int.ediv_eq_of_eq_mul_right (by omega) hx
    rw [ex]
    have x0 : 0 < x := by
      rcases Int.lt_trichotomy x 0 with z | z | z
      · have := Int.mul_neg_of_pos_of_neg g0 z
        omega
      · rw [z, Int.mul_zero] at hx
        omega
      · exact z
    refine ⟨Int.mul_pos x0 hb, ⟨y, ?_⟩, ⟨x, Int.mul_comm _ _⟩, fun D h1 h2 => ?_⟩
    · subst hx hy
      grind
    · obtain ⟨d1, e1⟩ := h1
      obtain ⟨d2, e2⟩ := h2
      have e3 : x * d1 = y * d2 := by
        have : g * (x * d1) = g * (y * d2) := by
          rw [← Int.mul_assoc, ← Int.mul_assoc, ← hx, ← hy, ← e1, ← e2]
        exact Int.eq_of_mul_eq_mul_left (by omega) this
      have yd : y.natAbs ∣ d1.natAbs := by
        have h1 : y.natAbs ∣ x.natAbs * d1.natAbs := by
          rw [← Int.natAbs_mul, e3, Int.natAbs_mul]
          exact ⟨_, rfl⟩
        have cp : Nat.Coprime y.natAbs x.natAbs := Nat.Coprime.symm cop
        exact cp.dvd_of_dvd_mul_left h1
      obtain ⟨k, hk⟩ := Int.natAbs_dvd_natAbs.mp yd
      refine ⟨k, ?_⟩
      subst hx hy hk
      grind
def com (bs : List Int) : Int := bs.foldl lcmI 1
theorem com_ok : ∀ (bs : List Int) (c : Int), 0 < c → (∀ b ∈ bs, 0 < b) → 0 < bs.foldl lcmI c ∧ c ∣ bs.foldl lcmI c ∧ (∀ b ∈ bs, b ∣ bs.foldl lcmI c) ∧ ∀ D, c ∣ D → (∀ b ∈ bs, b ∣ D) → bs.foldl lcmI c ∣ D
  | [], c, hc, _ => ⟨hc, Int.dvd_refl c, fun b h => absurd h List.not_mem_nil, fun D h _ => h⟩
  | b :: bs, c, hc, hb => by
    obtain ⟨a1, a2, a3, a4⟩ := lcmI_ok hc (hb b List.mem_cons_self)
    obtain ⟨i1, i2, i3, i4⟩ := com_ok bs (lcmI c b) a1 fun x hx => hb x (List.mem_cons_of_mem _ hx)
    rw [List.foldl_cons]
    refine ⟨i1, Int.dvd_trans a2 i2, fun x hx => ?_, fun D h1 h2 => i4 D (a4 D h1 (h2 b List.mem_cons_self)) fun x hx => h2 x (List.mem_cons_of_mem _ hx)⟩
    rcases List.mem_cons.mp hx with rfl | hx
    · exact Int.dvd_trans a3 i2
    · exact i3 x hx
/-- tops over one bottom -/
def tops (c : Int) (ps : List (Int × Int)) : List Int := ps.map fun p => p.1 * (c / p.2)
theorem clear_q (c : Int) (hc : c ≠ 0) : ∀ ps : List (Int × Int), (∀ p ∈ ps, 0 < p.2 ∧ p.2 ∣ c) → sumR (ps.map fun p => Rat.divInt p.1 p.2) * (c : Rat) = ((tops c ps).sum : Int)
  | [], _ => by
    show (0 : Rat) * _ = ((0 : Int) : Rat)
    push_cast
    grind
  | p :: ps, h => by
    have i := clear_q c hc ps fun x hx => h x (List.mem_cons_of_mem _ hx)
    obtain ⟨p0, k, hk⟩ := h p List.mem_cons_self
    have e : c / p.2 = k := Int.ediv_eq_of_eq_mul_right (by omega) hk
    show (Rat.divInt p.1 p.2 + sumR (ps.map fun p => Rat.divInt p.1 p.2)) * (c : Rat) = ((p.1 * (c / p.2) + (tops c ps).sum : Int) : Rat)
    rw [e]
    have d := div_q (t := p.1) (show p.2 ≠ 0 by omega)
    have hk2 : (c : Rat) = (p.2 : Rat) * (k : Rat) := by
      rw [hk]
      push_cast
      rfl
    push_cast
    grind
/-- the products that aren't 0 -/
def prods : List Rat → List Rat → List (Int × Int)
  | x :: xs, y :: ys => (if x.num ≠ 0 ∧ y.num ≠ 0 then [(x.num * y.num, (x.den * y.den : Int))] else []) ++ prods xs ys
  | _, _ => []
theorem prods_q : ∀ xs ys : List Rat, sumR ((prods xs ys).map fun p => Rat.divInt p.1 p.2) = dotR xs ys
  | [], _ => rfl
  | _ :: _, [] => rfl
  | x :: xs, y :: ys => by
    show sumR (((if x.num ≠ 0 ∧ y.num ≠ 0 then [(x.num * y.num, (x.den * y.den : Int))] else []) ++ prods xs ys).map fun p => Rat.divInt p.1 p.2) = x * y + dotR xs ys
    rw [List.map_append, sumR_append, prods_q xs ys]
    split
    · show Rat.divInt (x.num * y.num) (x.den * y.den) + 0 + _ = _
      rw [times_q]
      grind
    · next h =>
      have z : x * y = 0 := by
        by_cases c : x.num = 0
        · rw [num_eq c]
          grind
        · have : y.num = 0 := Classical.byContradiction fun w => h ⟨c, w⟩
          rw [num_eq this]
          grind
      rw [z]
      show (0 : Rat) + _ = _
      grind
theorem prods_mem : ∀ {xs ys : List Rat} {p : Int × Int}, p ∈ prods xs ys → ∃ x ∈ xs, ∃ y ∈ ys, p = (x.num * y.num, (x.den * y.den : Int))
  | [], _, p, h => absurd h List.not_mem_nil
  | _ :: _, [], p, h => absurd h List.not_mem_nil
  | x :: xs, y :: ys, p, h => by
    have h' : p ∈ (if x.num ≠ 0 ∧ y.num ≠ 0 then [(x.num * y.num, (x.den * y.den : Int))] else []) ++ prods xs ys := h
    rcases List.mem_append.mp h' with h | h
    · split at h
      · exact ⟨x, List.mem_cons_self, y, List.mem_cons_self, List.mem_singleton.mp h⟩
      · exact absurd h List.not_mem_nil
    · obtain ⟨a, h1, b, h2, e⟩ := prods_mem h
      exact ⟨a, List.mem_cons_of_mem _ h1, b, List.mem_cons_of_mem _ h2, e⟩
/-! ### lists of pairs and of fractions in the heap -/
inductive PrsAt (H : Hp) : List V → List (Int × Int) → Prop where
  | nil : PrsAt H [] []
  | cons {p : Addr} {t b : Int} {vs : List V} {ps : List (Int × Int)} (e : H p = some (.tup [.int t, .int b])) (r : PrsAt H vs ps) : PrsAt H (.ref p :: vs) ((t, b) :: ps)
def pr (q : Rat) : Int × Int := (q.num, (q.den : Int))
abbrev FrsAt (H : Hp) (vs : List V) (qs : List Rat) : Prop := PrsAt H vs (qs.map pr)
def Fr (H : Hp) (p : Addr) (q : Rat) : Prop := H p = some (.tup [.int q.num, .int (q.den : Int)])
def FrL (H : Hp) (a : Addr) (qs : List Rat) : Prop := ∃ vs, H a = some (.lst vs) ∧ FrsAt H vs qs
theorem PrsAt.same {H H' : Hp} {vs : List V} {ps : List (Int × Int)} (h : PrsAt H vs ps) (s : Same H H') : PrsAt H' vs ps := by
  induction h with
  | nil => exact .nil
  | cons e _ ih => exact .cons (s _ _ e) ih
theorem PrsAt.but {H H' : Hp} {a : Addr} {xs : List V} {vs : List V} {ps : List (Int × Int)} (h : PrsAt H vs ps) (s : SameBut a H H') (ha : H a = some (.lst xs)) : PrsAt H' vs ps := by
  induction h with
  | nil => exact .nil
  | cons e _ ih => exact .cons (s _ _ (ne_of e ha (fun z => nomatch z)) e) ih
theorem PrsAt.len {H : Hp} {vs : List V} {ps : List (Int × Int)} (h : PrsAt H vs ps) : vs.length = ps.length := by
  induction h with
  | nil => rfl
  | cons _ _ ih => rw [List.length_cons, List.length_cons, ih]
theorem PrsAt.get {H : Hp} {vs : List V} {ps : List (Int × Int)} (h : PrsAt H vs ps) : ∀ {i : Nat} {v : V}, vs[i]? = some v → ∃ p t b, v = .ref p ∧ ps[i]? = some (t, b) ∧ H p = some (.tup [.int t, .int b]) := by
  induction h with
  | nil => intro i v z; cases z
  | cons e _ ih =>
    intro i v z
    cases i with
    | zero =>
      cases z
      exact ⟨_, _, _, rfl, rfl, e⟩
    | succ i => exact ih z
theorem PrsAt.at {H : Hp} {vs : List V} {ps : List (Int × Int)} (h : PrsAt H vs ps) : ∀ {i : Nat} {x : Int × Int}, ps[i]? = some x → ∃ p, vs[i]? = some (.ref p) ∧ H p = some (.tup [.int x.1, .int x.2]) := by
  induction h with
  | nil => intro i v z; cases z
  | cons e _ ih =>
    intro i v z
    cases i with
    | zero =>
      cases z
      exact ⟨_, rfl, e⟩
    | succ i => exact ih z
theorem PrsAt.app {H : Hp} {vs ws : List V} {ps qs : List (Int × Int)} (h : PrsAt H vs ps) (g : PrsAt H ws qs) : PrsAt H (vs ++ ws) (ps ++ qs) := by
  induction h with
  | nil => exact g
  | cons e _ ih => exact .cons e ih
theorem PrsAt.drop {H : Hp} {vs : List V} {ps : List (Int × Int)} (h : PrsAt H vs ps) : ∀ n, PrsAt H (vs.drop n) (ps.drop n) := by
  induction h with
  | nil => intro n; rw [List.drop_nil, List.drop_nil]; exact .nil
  | cons e r ih =>
    intro n
    cases n with
    | zero => exact .cons e r
    | succ n => exact ih n
theorem PrsAt.take {H : Hp} {vs : List V} {ps : List (Int × Int)} (h : PrsAt H vs ps) : ∀ n, PrsAt H (vs.take n) (ps.take n) := by
  induction h with
  | nil => intro n; rw [List.take_nil, List.take_nil]; exact .nil
  | cons e r ih =>
    intro n
    cases n with
    | zero => exact .nil
    | succ n => exact .cons e (ih n)
theorem FrsAt.get {H : Hp} {vs : List V} {qs : List Rat} (h : FrsAt H vs qs) {i : Nat} {v : V} (e : vs[i]? = some v) : ∃ p q, v = .ref p ∧ qs[i]? = some q ∧ Fr H p q := by
  obtain ⟨p, t, b, e1, e2, e3⟩ := PrsAt.get h e
  rw [List.getElem?_map] at e2
  obtain ⟨q, hq, ee⟩ := Option.map_eq_some_iff.mp e2
  cases ee
  exact ⟨p, q, e1, hq, e3⟩
theorem FrsAt.at {H : Hp} {vs : List V} {qs : List Rat} (h : FrsAt H vs qs) {i : Nat} {q : Rat} (e : qs[i]? = some q) : ∃ p, vs[i]? = some (.ref p) ∧ Fr H p q := PrsAt.at h (x := pr q) (by rw [List.getElem?_map, e]; rfl)
theorem FrsAt.len {H : Hp} {vs : List V} {qs : List Rat} (h : FrsAt H vs qs) : vs.length = qs.length := by
  have := PrsAt.len h
  rw [List.length_map] at this
  exact this
theorem FrsAt.app {H : Hp} {vs ws : List V} {qs rs : List Rat} (h : FrsAt H vs qs) (g : FrsAt H ws rs) : FrsAt H (vs ++ ws) (qs ++ rs) := by
  show PrsAt H _ ((qs ++ rs).map pr)
  rw [List.map_append]
  exact PrsAt.app h g
theorem FrsAt.one {H : Hp} {p : Addr} {q : Rat} (h : Fr H p q) : FrsAt H [.ref p] [q] := .cons h .nil
theorem FrsAt.drop {H : Hp} {vs : List V} {qs : List Rat} (h : FrsAt H vs qs) (n : Nat) : FrsAt H (vs.drop n) (qs.drop n) := by
  show PrsAt H _ ((qs.drop n).map pr)
  rw [List.map_drop]
  exact PrsAt.drop h n
theorem FrsAt.take {H : Hp} {vs : List V} {qs : List Rat} (h : FrsAt H vs qs) (n : Nat) : FrsAt H (vs.take n) (qs.take n) := by
  show PrsAt H _ ((qs.take n).map pr)
  rw [List.map_take]
  exact PrsAt.take h n
theorem FrL.same {H H' : Hp} {a : Addr} {qs : List Rat} (h : FrL H a qs) (s : Same H H') : FrL H' a qs := by
  obtain ⟨vs, e, r⟩ := h
  exact ⟨vs, s _ _ e, PrsAt.same r s⟩
theorem Fr.same {H H' : Hp} {p : Addr} {q : Rat} (h : Fr H p q) (s : Same H H') : Fr H' p q := s _ _ h
theorem Fr.low {H : Hp} {p : Addr} {t b : Int} {q : Rat} (hb : b ≠ 0) (e : Rat.divInt t b = q) (h : H p = some (.tup [.int (lowT t b), .int (lowB t b)])) : Fr H p q := by
  rw [lowT_num hb, lowB_den hb, e] at h
  exact h
/-- as data -/
def frD (q : Rat) : PyData := .tuple [.int q.num, .int (q.den : Int)]
theorem Fr.dp {K : PySem.W.Frag} {H : Hp} {p : Addr} {q : Rat} (h : Fr H p q) : Dp K H (.ref p) (frD q) := .tup (SqT.of h) (.cons (.int _) (.cons (.int _) .nil))
theorem FrsAt.dp {K : PySem.W.Frag} {H : Hp} : ∀ {qs : List Rat} {vs : List V}, FrsAt H vs qs → DpAll K H vs (qs.map frD)
  | [], vs, h => by
    cases h
    exact .nil
  | q :: qs, vs, h => by
    cases h with
    | cons e r => exact .cons (Fr.dp e) (FrsAt.dp r)
theorem frD_eqv (q r : Rat) : PyData.eqv (frD q) (frD r) = decide (q = r) := by
  show PyData.eqv (.tuple [.int q.num, .int (q.den : Int)]) (.tuple [.int r.num, .int (r.den : Int)]) = _
  simp only [PyData.eqv, PyData.eqvAll, Bool.and_true]
  rw [Bool.eq_iff_iff]
  simp only [Bool.and_eq_true, beq_iff_eq, decide_eq_true_eq]
  constructor
  · intro ⟨h1, h2⟩
    exact Rat.ext h1 (by exact_mod_cast h2)
  · intro h
    rw [h]
    exact ⟨rfl, rfl⟩
theorem frDs_eqv : ∀ qs rs : List Rat, PyData.eqvAll (qs.map frD) (rs.map frD) = decide (qs = rs)
  | [], [] => by simp [PyData.eqvAll]
  | [], r :: rs => by simp [PyData.eqvAll]
  | q :: qs, [] => by simp [PyData.eqvAll]
  | q :: qs, r :: rs => by
    rw [List.map_cons, List.map_cons, PyData.eqvAll, frD_eqv, frDs_eqv qs rs, Bool.eq_iff_iff]
    simp
theorem frL_eqv (qs rs : List Rat) : PyData.eqv (.list (qs.map frD)) (.list (rs.map frD)) = decide (qs = rs) := by
  rw [← frDs_eqv]
  simp only [PyData.eqv]
theorem frDs_lay : ∀ qs : List Rat, PyData.canLayAll0 (qs.map frD) = true
  | [] => rfl
  | q :: qs => by
    rw [List.map_cons, PyData.canLayAll0, frDs_lay qs, Bool.and_true]
    rfl
theorem frDs_deep : ∀ qs : List Rat, PyData.depthAll (qs.map frD) ≤ 3
  | [] => by simp [PyData.depthAll]
  | q :: qs => by
    have := frDs_deep qs
    simp only [List.map_cons, PyData.depthAll, frD, PyData.depth]
    omega
theorem frD_shaped (q : Rat) : SeqAt.shaped (frD q) = true := rfl
theorem frL_shaped (qs : List Rat) : SeqAt.shaped (.list (qs.map frD)) = true := by
  have h1 := frDs_deep qs
  have h2 : PyData.depth (.list (qs.map frD)) ≤ 64 := by simp only [PyData.depth]; omega
  show (PyData.canLay0 (.list (qs.map frD)) && decide (PyData.depth (.list (qs.map frD)) ≤ 64)) = true
  rw [Bool.and_eq_true]
  exact ⟨by simp only [PyData.canLay0]; exact frDs_lay qs, decide_eq_true h2⟩

end E1

namespace E1
open PySem PySem.Spec PyProof.Rows L2
/-! ### signed sums over a list of columns, and what they make of rows -/
def E (f : Nat → List Nat → Rat) : List Nat → Rat
  | [] => 0
  | c :: cs => f c cs - E (fun x r => f x (c :: r)) cs
theorem E_congr : ∀ (cs : List Nat) (f g : Nat → List Nat → Rat), (∀ x, x ∈ cs → ∀ r, f x r = g x r) → E f cs = E g cs
  | [], _, _, _ => rfl
  | c :: cs, f, g, h => by
    show f c cs - _ = g c cs - _
    rw [h c List.mem_cons_self cs, E_congr cs _ _ fun x hx r => h x (List.mem_cons_of_mem _ hx) (c :: r)]
theorem E_add : ∀ (cs : List Nat) (f g : Nat → List Nat → Rat) (t : Rat), E (fun x r => f x r + t * g x r) cs = E f cs + t * E g cs
  | [], _, _, _ => by show (0 : Rat) = 0 + _ * 0; grind
  | c :: cs, f, g, t => by
    show (f c cs + t * g c cs) - E (fun x r => f x (c :: r) + t * g x (c :: r)) cs = (f c cs - E _ cs) + t * (g c cs - E _ cs)
    rw [E_add cs (fun x r => f x (c :: r)) (fun x r => g x (c :: r)) t]
    grind
theorem E_nought : ∀ (cs : List Nat) (f : Nat → List Nat → Rat), (∀ x, x ∈ cs → ∀ r, f x r = 0) → E f cs = 0
  | [], _, _ => rfl
  | c :: cs, f, h => by
    show f c cs - _ = 0
    rw [h c List.mem_cons_self cs, E_nought cs _ fun x hx r => h x (List.mem_cons_of_mem _ hx) (c :: r)]
    grind
theorem E_smul (cs : List Nat) (f : Nat → List Nat → Rat) (t : Rat) : E (fun x r => t * f x r) cs = t * E f cs := by
  have a := E_add cs (fun _ _ => 0) f t
  rw [E_nought cs (fun _ _ => 0) fun _ _ _ => rfl] at a
  rw [E_congr cs (fun x r => t * f x r) (fun x r => 0 + t * f x r) fun x _ r => by grind, a]
  grind
theorem E_sub (cs : List Nat) (f g : Nat → List Nat → Rat) : E (fun x r => f x r - g x r) cs = E f cs - E g cs := by
  rw [E_congr cs (fun x r => f x r - g x r) (fun x r => f x r + (-1) * g x r) fun x _ r => by grind, E_add]
  grind
/-- two picks, in the other order -/
theorem E_two : ∀ (cs : List Nat) (G : Nat → Nat → List Nat → Rat), E (fun x r => E (fun y s => G x y s) r) cs = - E (fun x r => E (fun y s => G y x s) r) cs
  | [], _ => by show (0 : Rat) = -0; grind
  | c :: cs, G => by
    have ex : ∀ F : Nat → Nat → List Nat → Rat, E (fun x r => E (fun y s => F x y s) r) (c :: cs) = E (fun y s => F c y s) cs - E (fun x r => F x c r) cs + E (fun x r => E (fun y s => F x y (c :: s)) r) cs := fun F => by
      show E (fun y s => F c y s) cs - E (fun x r => F x c r - E (fun y s => F x y (c :: s)) r) cs = _
      rw [E_sub]
      grind
    rw [ex G, ex fun x y s => G y x s, E_two cs fun x y s => G x y (c :: s)]
    grind
def D : List (Nat → Rat) → List Nat → Rat
  | [], _ => 1
  | b :: R, cols => E (fun c r => b c * D R r) cols
theorem D_lin (a b : Nat → Rat) (t : Rat) (R : List (Nat → Rat)) (cols : List Nat) : D ((fun j => a j + t * b j) :: R) cols = D (a :: R) cols + t * D (b :: R) cols := by
  show E (fun c r => (a c + t * b c) * D R r) cols = E (fun c r => a c * D R r) cols + t * E (fun c r => b c * D R r) cols
  rw [← E_add]
  exact E_congr _ _ _ fun x _ r => by grind
theorem D_swap (b u : Nat → Rat) (R : List (Nat → Rat)) (cols : List Nat) : D (b :: u :: R) cols = - D (u :: b :: R) cols := by
  show E (fun x r => b x * E (fun y s => u y * D R s) r) cols = - E (fun x r => u x * E (fun y s => b y * D R s) r) cols
  rw [E_congr cols (fun x r => b x * E (fun y s => u y * D R s) r) (fun x r => E (fun y s => b x * (u y * D R s)) r) fun x _ r => (E_smul _ _ _).symm]
  rw [E_congr cols (fun x r => u x * E (fun y s => b y * D R s) r) (fun x r => E (fun y s => b y * (u x * D R s)) r) fun x _ r => by
    rw [← E_smul]
    exact E_congr _ _ _ fun y _ s => by grind]
  exact E_two cols fun x y s => b x * (u y * D R s)
theorem D_same : ∀ (R : List (Nat → Rat)) (b : Nat → Rat) (cols : List Nat), b ∈ R → D (b :: R) cols = 0
  | u :: R, b, cols, h => by
    rcases List.mem_cons.mp h with rfl | h
    · have := D_swap b b R cols
      grind
    · rw [D_swap]
      have z : D (u :: b :: R) cols = 0 := E_nought cols _ fun x _ r => by
        show u x * D (b :: R) r = 0
        rw [D_same R b r h]
        grind
      rw [z]
      grind
theorem D_head {g : Nat → Rat} {R : List (Nat → Rat)} {j : Nat} {cs : List Nat} (h : ∀ c ∈ cs, g c = 0) : D (g :: R) (j :: cs) = g j * D R cs := by
  show g j * D R cs - E (fun x r => g x * D R (j :: r)) cs = _
  rw [E_nought cs _ fun x hx r => by rw [h x hx]; grind]
  grind
/-! ### whole numbers, and how far they go -/
def Wh (M : Nat) (x : Rat) : Prop := ∃ z : Int, x = (z : Rat) ∧ z.natAbs ≤ M
theorem Wh.mono {M N : Nat} {x : Rat} (h : Wh M x) (l : M ≤ N) : Wh N x := let ⟨z, e, b⟩ := h; ⟨z, e, Nat.le_trans b l⟩
theorem Wh.sub {M N : Nat} {x y : Rat} (h : Wh M x) (g : Wh N y) : Wh (M + N) (x - y) := by
  obtain ⟨z, rfl, b⟩ := h
  obtain ⟨u, rfl, c⟩ := g
  exact ⟨z - u, by rw [Rat.intCast_sub], by omega⟩
theorem Wh.mul {M N : Nat} {x y : Rat} (h : Wh M x) (g : Wh N y) : Wh (M * N) (x * y) := by
  obtain ⟨z, rfl, b⟩ := h
  obtain ⟨u, rfl, c⟩ := g
  exact ⟨z * u, by rw [Rat.intCast_mul], by rw [Int.natAbs_mul]; exact Nat.mul_le_mul b c⟩
theorem E_wh {M : Nat} : ∀ (cs : List Nat) (f : Nat → List Nat → Rat), (∀ x r, x ∈ cs → r.length + 1 = cs.length → Wh M (f x r)) → Wh (cs.length * M) (E f cs)
  | [], _, _ => ⟨0, rfl, Nat.zero_le _⟩
  | c :: cs, f, h => by
    have a := h c cs List.mem_cons_self rfl
    have b := E_wh cs (fun x r => f x (c :: r)) fun x r hx hr => h x (c :: r) (List.mem_cons_of_mem _ hx) (by rw [List.length_cons, List.length_cons, hr])
    refine (a.sub b).mono ?_
    rw [List.length_cons, Nat.succ_mul]
    omega
def fac : Nat → Nat
  | 0 => 1
  | n + 1 => (n + 1) * fac n
theorem D_wh {M : Nat} : ∀ (R : List (Nat → Rat)) (cols : List Nat), (∀ b ∈ R, ∀ c, Wh M (b c)) → cols.length = R.length → Wh (fac R.length * M ^ R.length) (D R cols)
  | [], _, _, _ => ⟨1, rfl, by show 1 ≤ 1 * M ^ 0; simp⟩
  | b :: R, cols, h, hl => by
    have e := E_wh (M := M * (fac R.length * M ^ R.length)) cols (fun c r => b c * D R r) fun x r hx hr => (h b List.mem_cons_self x).mul (D_wh R r (fun u hu => h u (List.mem_cons_of_mem _ hu)) (by rw [hl, List.length_cons] at hr; omega))
    refine Wh.mono e ?_
    rw [hl, List.length_cons]
    show (R.length + 1) * (M * (fac R.length * M ^ R.length)) ≤ (R.length + 1) * fac R.length * M ^ (R.length + 1)
    rw [Nat.pow_succ]
    refine Nat.le_of_eq ?_
    grind
/-! ### the rows ahead of a stage -/
def rowsR (P : Nat → Nat → Rat) : Nat → List (Nat → Rat)
  | 0 => []
  | k + 1 => P k :: rowsR P k
def colsR : Nat → List Nat
  | 0 => []
  | k + 1 => k :: colsR k
theorem colsR_len : ∀ k, (colsR k).length = k
  | 0 => rfl
  | k + 1 => by
    show (colsR k).length + 1 = _
    rw [colsR_len k]
theorem colsR_mem : ∀ {k c : Nat}, c ∈ colsR k → c < k
  | k + 1, c, h => by
    rcases List.mem_cons.mp h with rfl | h
    · exact Nat.lt_succ_self _
    · exact Nat.lt_succ_of_lt (colsR_mem h)
theorem rowsR_len (P : Nat → Nat → Rat) : ∀ k, (rowsR P k).length = k
  | 0 => rfl
  | k + 1 => by
    show (rowsR P k).length + 1 = _
    rw [rowsR_len P k]
theorem rowsR_mem {P : Nat → Nat → Rat} : ∀ {k t : Nat}, t < k → P t ∈ rowsR P k
  | k + 1, t, h => by
    by_cases e : t = k
    · rw [e]
      exact List.mem_cons_self
    · exact List.mem_cons_of_mem _ (rowsR_mem (by omega))
theorem rowsR_of {P : Nat → Nat → Rat} : ∀ {k : Nat} {b : Nat → Rat}, b ∈ rowsR P k → ∃ t, t < k ∧ b = P t
  | k + 1, b, h => by
    rcases List.mem_cons.mp h with rfl | h
    · exact ⟨k, Nat.lt_succ_self _, rfl⟩
    · obtain ⟨t, ht, e⟩ := rowsR_of h
      exact ⟨t, Nat.lt_succ_of_lt ht, e⟩
theorem rowsR_congr {P P' : Nat → Nat → Rat} : ∀ {k : Nat}, (∀ t, t < k → P t = P' t) → rowsR P k = rowsR P' k
  | 0, _ => rfl
  | k + 1, h => by
    show P k :: rowsR P k = P' k :: rowsR P' k
    rw [h k (Nat.lt_succ_self k), rowsR_congr fun t ht => h t (Nat.lt_succ_of_lt ht)]
def dd (P : Nat → Nat → Rat) (k : Nat) : Rat := D (rowsR P k) (colsR k)
def bb (P : Nat → Nat → Rat) (k : Nat) (v : Nat → Rat) (j : Nat) : Rat := D (v :: rowsR P k) (j :: colsR k)
theorem bb_zero (P : Nat → Nat → Rat) (v : Nat → Rat) (j : Nat) : bb P 0 v j = v j := by
  show v j * 1 - 0 = v j
  grind
theorem dd_zero (P : Nat → Nat → Rat) : dd P 0 = 1 := rfl
theorem dd_succ (P : Nat → Nat → Rat) (k : Nat) : dd P (k + 1) = bb P k (P k) k := rfl
/-- v less some of the rows ahead, with noughts in the columns ahead -/
def Cut (P : Nat → Nat → Rat) (k : Nat) (v g : Nat → Rat) : Prop := (∃ a : Nat → Rat, ∀ j, g j = v j - sg (fun t => a t * P t j) k) ∧ ∀ c, c < k → g c = 0
theorem D_sg (P : Nat → Nat → Rat) (a : Nat → Rat) (v : Nat → Rat) (R : List (Nat → Rat)) (cols : List Nat) : ∀ k, (∀ t, t < k → P t ∈ R) → D ((fun j => v j - sg (fun t => a t * P t j) k) :: R) cols = D (v :: R) cols
  | 0, _ => by
    have : (fun j => v j - sg (fun t => a t * P t j) 0) = v := funext fun j => by show v j - 0 = v j; grind
    rw [this]
  | k + 1, h => by
    have e : (fun j => v j - sg (fun t => a t * P t j) (k + 1)) = fun j => (fun j => v j - sg (fun t => a t * P t j) k) j + (- a k) * P k j := funext fun j => by
      show v j - (sg (fun t => a t * P t j) k + a k * P k j) = _
      grind
    rw [e, D_lin, D_same R (P k) cols (h k (Nat.lt_succ_self k)), D_sg P a v R cols k fun t ht => h t (Nat.lt_succ_of_lt ht)]
    grind
theorem Cut.bb {P : Nat → Nat → Rat} {k : Nat} {v g : Nat → Rat} (h : Cut P k v g) (j : Nat) : bb P k v j = g j * dd P k := by
  obtain ⟨⟨a, e⟩, z⟩ := h
  have e2 := D_sg P a v (rowsR P k) (j :: colsR k) k fun t ht => rowsR_mem ht
  have e3 : (fun j => v j - sg (fun t => a t * P t j) k) = g := funext fun j => (e j).symm
  rw [e3] at e2
  show D (v :: rowsR P k) (j :: colsR k) = _
  rw [← e2]
  exact D_head fun c hc => z c (colsR_mem hc)
theorem Cut.next {P : Nat → Nat → Rat} {k : Nat} {v g p : Nat → Rat} (cg : Cut P k v g) (cp : Cut P k (P k) p) (pk : p k ≠ 0) : Cut P (k + 1) v fun j => g j - g k / p k * p j := by
  obtain ⟨⟨a, ea⟩, za⟩ := cg
  obtain ⟨⟨b, eb⟩, zb⟩ := cp
  refine ⟨⟨fun t => if t < k then a t - g k / p k * b t else g k / p k, fun j => ?_⟩, fun c hc => ?_⟩
  · show g j - g k / p k * p j = v j - (sg (fun t => (if t < k then a t - g k / p k * b t else g k / p k) * P t j) k + (if k < k then _ else g k / p k) * P k j)
    rw [if_neg (Nat.lt_irrefl k), sg_congr k fun t ht => by rw [if_pos ht]]
    have e : sg (fun t => (a t - g k / p k * b t) * P t j) k = sg (fun t => a t * P t j) k + (- (g k / p k)) * sg (fun t => b t * P t j) k := by
      rw [← sg_mul, ← sg_add]
      exact sg_congr k fun t _ => by grind
    rw [e, ea j, eb j]
    generalize g k / p k = q
    grind
  · by_cases e : c = k
    · subst e
      show g c - g c / p c * p c = 0
      grind
    · show g c - g k / p k * p c = 0
      rw [za c (by omega), zb c (by omega)]
      grind
def Lead (P : Nat → Nat → Rat) (k : Nat) : Prop := ∀ t, t ≤ k → dd P t ≠ 0
theorem Lead.low {P : Nat → Nat → Rat} {k m : Nat} (h : Lead P k) (l : m ≤ k) : Lead P m := fun t ht => h t (by omega)
theorem cut_ex (P : Nat → Nat → Rat) : ∀ k, Lead P k → ∀ v, ∃ g, Cut P k v g
  | 0, _, v => ⟨v, ⟨fun _ => 0, fun j => by show v j = v j - 0; grind⟩, fun c h => absurd h (Nat.not_lt_zero _)⟩
  | k + 1, h, v => by
    obtain ⟨g, cg⟩ := cut_ex P k (h.low (Nat.le_succ k)) v
    obtain ⟨p, cp⟩ := cut_ex P k (h.low (Nat.le_succ k)) (P k)
    have d1 := h (k + 1) (Nat.le_refl _)
    rw [dd_succ, cp.bb] at d1
    exact ⟨_, cg.next cp fun z => d1 (by rw [z]; grind)⟩
/-- what a stage makes of the one ahead of it -/
theorem bb_step {P : Nat → Nat → Rat} {k : Nat} (h : Lead P (k + 1)) (v : Nat → Rat) (j : Nat) : dd P k * bb P (k + 1) v j = dd P (k + 1) * bb P k v j - bb P k v k * bb P k (P k) j := by
  obtain ⟨g, cg⟩ := cut_ex P k (h.low (Nat.le_succ k)) v
  obtain ⟨p, cp⟩ := cut_ex P k (h.low (Nat.le_succ k)) (P k)
  have d1 := h (k + 1) (Nat.le_refl _)
  rw [dd_succ, cp.bb] at d1
  have pk : p k ≠ 0 := fun z => d1 (by rw [z]; grind)
  rw [(cg.next cp pk).bb, dd_succ, cp.bb, cp.bb, cg.bb, cg.bb]
  grind
theorem bb_low {P : Nat → Nat → Rat} {k : Nat} (h : Lead P k) (v : Nat → Rat) {j : Nat} (hj : j < k) : bb P k v j = 0 := by
  obtain ⟨g, cg⟩ := cut_ex P k h v
  rw [cg.bb, cg.2 j hj]
  grind
theorem bb_own {P : Nat → Nat → Rat} {k i : Nat} (hi : i < k) (j : Nat) : bb P k (P i) j = 0 := D_same _ _ _ (rowsR_mem hi)
/-! ### what is led to a column -/
theorem E_sg (f : Nat → Nat → List Nat → Rat) (cs : List Nat) : ∀ n, E (fun x r => sg (fun t => f t x r) n) cs = sg (fun t => E (f t) cs) n
  | 0 => E_nought cs _ fun _ _ _ => rfl
  | n + 1 => by
    show E (fun x r => sg (fun t => f t x r) n + f n x r) cs = sg (fun t => E (f t) cs) n + E (f n) cs
    rw [← E_sg f cs n, E_congr cs _ (fun x r => sg (fun t => f t x r) n + 1 * f n x r) fun x _ r => by grind, E_add]
    grind
theorem sg_pick (v : Nat → Rat) (y : Rat) (x : Nat) : ∀ n, sg (fun t => v t * ((if x = t then 1 else 0) * y)) n = if x < n then v x * y else 0
  | 0 => by rw [if_neg (Nat.not_lt_zero x)]; rfl
  | n + 1 => by
    show sg _ n + v n * ((if x = n then 1 else 0) * y) = _
    rw [sg_pick v y x n]
    by_cases e : x = n
    · subst e
      rw [if_neg (Nat.lt_irrefl x), if_pos rfl, if_pos (Nat.lt_succ_self x)]
      grind
    · rw [if_neg e]
      by_cases l : x < n
      · rw [if_pos l, if_pos (Nat.lt_succ_of_lt l)]
        grind
      · rw [if_neg l, if_neg (by omega)]
        grind
def tp (P : Nat → Nat → Rat) (n j0 t : Nat) : Rat := E (fun c r => (if c = t then 1 else 0) * D (rowsR P n) (j0 :: r)) (colsR n)
theorem cramer (P : Nat → Nat → Rat) (n j0 : Nat) (v : Nat → Rat) : bb P n v j0 = v j0 * dd P n - sg (fun t => v t * tp P n j0 t) n := by
  show v j0 * D (rowsR P n) (colsR n) - E (fun x r => v x * D (rowsR P n) (j0 :: r)) (colsR n) = _
  have e : E (fun x r => v x * D (rowsR P n) (j0 :: r)) (colsR n) = sg (fun t => v t * tp P n j0 t) n := by
    rw [sg_congr n fun t _ => show v t * tp P n j0 t = E (fun c r => v t * ((if c = t then 1 else 0) * D (rowsR P n) (j0 :: r))) (colsR n) from (E_smul _ _ _).symm, ← E_sg]
    refine E_congr _ _ _ fun x hx r => ?_
    rw [sg_pick, if_pos (colsR_mem hx)]
  rw [e]
  rfl
/-- the rows ahead lead the tops to the column, as often as the last pivot says -/
theorem led_own {P : Nat → Nat → Rat} {n j0 i : Nat} (hi : i < n) : sg (fun t => P i t * tp P n j0 t) n = P i j0 * dd P n := by
  have := cramer P n j0 (P i)
  rw [bb_own hi] at this
  grind
theorem led_cut {P : Nat → Nat → Rat} {n j0 : Nat} (a : Nat → Rat) (v : Nat → Rat) (hv : sg (fun t => v t * tp P n j0 t) n = v j0 * dd P n) : ∀ k, k ≤ n → sg (fun t => (v t - sg (fun s => a s * P s t) k) * tp P n j0 t) n = (v j0 - sg (fun s => a s * P s j0) k) * dd P n
  | 0, _ => by
    show sg (fun t => (v t - 0) * tp P n j0 t) n = (v j0 - 0) * dd P n
    rw [sg_congr n fun t _ => show (v t - 0) * tp P n j0 t = v t * tp P n j0 t by grind, hv]
    grind
  | k + 1, h => by
    have i := led_cut a v hv k (by omega)
    have o := led_own (P := P) (n := n) (j0 := j0) (show k < n by omega)
    show sg (fun t => (v t - (sg (fun s => a s * P s t) k + a k * P k t)) * tp P n j0 t) n = (v j0 - (sg (fun s => a s * P s j0) k + a k * P k j0)) * dd P n
    rw [sg_congr n fun t _ => show (v t - (sg (fun s => a s * P s t) k + a k * P k t)) * tp P n j0 t = (v t - sg (fun s => a s * P s t) k) * tp P n j0 t + (- a k) * (P k t * tp P n j0 t) by grind, sg_add, sg_mul, i, o]
    grind
/-- the same of a row as a stage has it -/
theorem led_bb {P : Nat → Nat → Rat} {n j0 i : Nat} (h : Lead P n) (hi : i < n) : sg (fun t => bb P i (P i) t * tp P n j0 t) n = bb P i (P i) j0 * dd P n := by
  obtain ⟨g, cg⟩ := cut_ex P i (h.low (by omega)) (P i)
  obtain ⟨a, ea⟩ := cg.1
  have l := led_cut (j0 := j0) a (P i) (led_own hi) i (by omega)
  rw [sg_congr n fun t _ => show bb P i (P i) t * tp P n j0 t = dd P i * ((P i t - sg (fun s => a s * P s t) i) * tp P n j0 t) by rw [cg.bb, ea t]; grind, sg_mul, l, cg.bb, ea j0]
  grind
theorem sg_split (f : Nat → Rat) (i : Nat) : ∀ m, sg f (i + m) = sg f i + sg (fun s => f (i + s)) m
  | 0 => by show sg f i = sg f i + 0; grind
  | m + 1 => by
    show sg f (i + m) + f (i + m) = sg f i + (sg (fun s => f (i + s)) m + f (i + m))
    rw [sg_split f i m]
    grind
/-- a top, of those behind it -/
theorem back_one {P : Nat → Nat → Rat} {n j0 i m : Nat} (h : Lead P n) (hm : i + 1 + m = n) : bb P i (P i) i * tp P n j0 i = dd P n * bb P i (P i) j0 - sg (fun s => bb P i (P i) (i + 1 + s) * tp P n j0 (i + 1 + s)) m := by
  have l := led_bb (j0 := j0) h (show i < n by omega)
  have e := sg_split (fun t => bb P i (P i) t * tp P n j0 t) (i + 1) m
  rw [hm] at e
  have z : sg (fun t => bb P i (P i) t * tp P n j0 t) (i + 1) = bb P i (P i) i * tp P n j0 i := by
    show sg (fun t => bb P i (P i) t * tp P n j0 t) i + _ = _
    rw [sg_zero i fun t ht => by rw [bb_low (h.low (by omega)) _ ht]; grind]
    grind
  rw [e, z] at l
  grind
/-- no more than one list is led to a right side -/
theorem only_one {P : Nat → Nat → Rat} {n : Nat} (h : Lead P n) {w : Nat → Rat} (hw : ∀ i, i < n → sg (fun t => P i t * w t) n = 0) : ∀ m t, t < n → n ≤ t + m → w t = 0
  | 0, t, h1, h2 => absurd h1 (by omega)
  | m + 1, t, h1, h2 => by
    obtain ⟨g, cg⟩ := cut_ex P t (h.low (by omega)) (P t)
    obtain ⟨a, ea⟩ := cg.1
    have comb : ∀ k, k ≤ n → sg (fun s => (P t s - sg (fun u => a u * P u s) k) * w s) n = 0 := fun k => by
      induction k with
      | zero =>
        intro _
        rw [sg_congr n fun s _ => show (P t s - sg (fun u => a u * P u s) 0) * w s = P t s * w s by show (P t s - 0) * w s = _; grind]
        exact hw t h1
      | succ k ih =>
        intro hk
        rw [sg_congr n fun s _ => show (P t s - sg (fun u => a u * P u s) (k + 1)) * w s = (P t s - sg (fun u => a u * P u s) k) * w s + (- a k) * (P k s * w s) by
          show (P t s - (sg (fun u => a u * P u s) k + a k * P k s)) * w s = _
          grind, sg_add, sg_mul, ih (by omega), hw k (by omega)]
        grind
    have c := comb t (by omega)
    rw [sg_congr n fun s _ => show (P t s - sg (fun u => a u * P u s) t) * w s = g s * w s by rw [ea s]] at c
    obtain ⟨q, rfl⟩ : ∃ q, n = t + 1 + q := ⟨n - t - 1, by omega⟩
    rw [sg_split] at c
    have z1 : sg (fun s => g s * w s) (t + 1) = g t * w t := by
      show sg (fun s => g s * w s) t + _ = _
      rw [sg_zero t fun s hs => by rw [cg.2 s hs]; grind]
      grind
    have z2 : sg (fun s => g (t + 1 + s) * w (t + 1 + s)) q = 0 := sg_zero q fun s hs => by
      rw [only_one h hw m (t + 1 + s) (by omega) (by omega)]
      grind
    rw [z1, z2] at c
    have d1 := h (t + 1) (by omega)
    rw [dd_succ, cg.bb] at d1
    have gt : g t ≠ 0 := fun e => d1 (by rw [e]; grind)
    grind
/-! ### the first columns alone count -/
theorem D_cols : ∀ (R S : List (Nat → Rat)) (cols : List Nat), R.length = S.length → (∀ (i : Nat) (b c : Nat → Rat), R[i]? = some b → S[i]? = some c → ∀ x ∈ cols, b x = c x) → D R cols = D S cols
  | [], [], _, _, _ => rfl
  | [], _ :: _, _, h, _ => absurd h (by simp)
  | _ :: _, [], _, h, _ => absurd h (by simp)
  | b :: R, c :: S, cols, hl, h => by
    have key : ∀ (cs : List Nat) (f : List Nat → List Nat), (∀ x ∈ cs, b x = c x) → (∀ r, (∀ x ∈ r, x ∈ cs) → ∀ x ∈ f r, x ∈ cols) → E (fun x r => b x * D R (f r)) cs = E (fun x r => c x * D S (f r)) cs := fun cs => by
      induction cs with
      | nil => intro _ _ _; rfl
      | cons y cs ih =>
        intro f h1 h2
        show b y * D R (f cs) - E (fun x r => b x * D R (f (y :: r))) cs = c y * D S (f cs) - E (fun x r => c x * D S (f (y :: r))) cs
        have e1 : D R (f cs) = D S (f cs) := D_cols R S (f cs) (Nat.succ.inj hl) fun i b' c' h3 h4 x hx => h (i + 1) b' c' h3 h4 x (h2 cs (fun x hx => List.mem_cons_of_mem _ hx) x hx)
        rw [h1 y List.mem_cons_self, e1, ih (fun r => f (y :: r)) (fun x hx => h1 x (List.mem_cons_of_mem _ hx)) fun r hr x hx => h2 (y :: r) (fun z hz => by
          rcases List.mem_cons.mp hz with rfl | hz
          · exact List.mem_cons_self
          · exact List.mem_cons_of_mem _ (hr z hz)) x hx]
    exact key cols (fun r => r) (fun x hx => h 0 b c rfl rfl x hx) fun r hr x hx => hr x hx
theorem rowsR_at (P : Nat → Nat → Rat) : ∀ (k i : Nat), i < k → (rowsR P k)[i]? = some (P (k - 1 - i))
  | k + 1, 0, _ => rfl
  | k + 1, i + 1, h => by
    show (rowsR P k)[i]? = _
    rw [rowsR_at P k i (by omega), show k + 1 - 1 - (i + 1) = k - 1 - i by omega]
theorem dd_cols {P Q : Nat → Nat → Rat} {k : Nat} (h : ∀ i j, i < k → j < k → P i j = Q i j) : dd P k = dd Q k := by
  refine D_cols _ _ _ (by rw [rowsR_len, rowsR_len]) fun i b c h1 h2 x hx => ?_
  have hi := (List.getElem?_eq_some_iff.mp h1).1
  rw [rowsR_len] at hi
  rw [rowsR_at P k i hi] at h1
  rw [rowsR_at Q k i hi] at h2
  cases h1
  cases h2
  exact h _ _ (by omega) (colsR_mem hx)
/-- every right side has a list that is led to it -/
theorem any_side {P : Nat → Nat → Rat} {n : Nat} (h : Lead P n) (y : Nat → Rat) : ∃ x : Nat → Rat, ∀ i, i < n → sg (fun t => P i t * x t) n = y i := by
  have e : dd (fun i j => if j = n then y i else P i j) n = dd P n := dd_cols fun i j _ hj => by
    show (if j = n then _ else P i j) = _
    rw [if_neg (by omega)]
  have d := h n (Nat.le_refl _)
  refine ⟨fun t => tp (fun i j => if j = n then y i else P i j) n n t / dd P n, fun i hi => ?_⟩
  have o := led_own (P := fun i j => if j = n then y i else P i j) (n := n) (j0 := n) hi
  rw [e] at o
  have o2 : sg (fun t => P i t * tp (fun i j => if j = n then y i else P i j) n n t) n = y i * dd P n := by
    rw [← sg_congr n fun t ht => show (if t = n then y i else P i t) * tp (fun i j => if j = n then y i else P i j) n n t = P i t * tp (fun i j => if j = n then y i else P i j) n n t by rw [if_neg (by omega)]]
    have o3 : sg (fun t => (if t = n then y i else P i t) * tp (fun i j => if j = n then y i else P i j) n n t) n = (if n = n then y i else P i n) * dd P n := o
    rw [if_pos rfl] at o3
    exact o3
  generalize tp (fun i j => if j = n then y i else P i j) n n = T at *
  rw [sg_congr n fun t _ => show P i t * (T t / dd P n) = (1 / dd P n) * (P i t * T t) by grind, sg_mul, o2]
  grind
/-! ### whole numbers on the way -/
theorem bb_wh {M : Nat} {P : Nat → Nat → Rat} {v : Nat → Rat} (hP : ∀ i j, Wh M (P i j)) (hv : ∀ j, Wh M (v j)) (k j : Nat) : Wh (fac (k + 1) * M ^ (k + 1)) (bb P k v j) := by
  have := D_wh (M := M) (v :: rowsR P k) (j :: colsR k) (fun b hb c => by
    rcases List.mem_cons.mp hb with rfl | hb
    · exact hv c
    · obtain ⟨t, _, rfl⟩ := rowsR_of hb
      exact hP t c) (by rw [List.length_cons, List.length_cons, colsR_len, rowsR_len])
  rw [List.length_cons, rowsR_len] at this
  exact this
theorem dd_wh {M : Nat} {P : Nat → Nat → Rat} (hP : ∀ i j, Wh M (P i j)) (k : Nat) : Wh (fac k * M ^ k) (dd P k) := by
  have := D_wh (M := M) (rowsR P k) (colsR k) (fun b hb c => by
    obtain ⟨t, _, rfl⟩ := rowsR_of hb
    exact hP t c) (by rw [colsR_len, rowsR_len])
  rw [rowsR_len] at this
  exact this
theorem tp_wh {M : Nat} {P : Nat → Nat → Rat} (hP : ∀ i j, Wh M (P i j)) (n j0 t : Nat) : Wh (n * (fac n * M ^ n)) (tp P n j0 t) := by
  have := E_wh (M := fac n * M ^ n) (colsR n) (fun c r => (if c = t then 1 else 0) * D (rowsR P n) (j0 :: r)) fun x r hx hr => by
    have d := D_wh (M := M) (rowsR P n) (j0 :: r) (fun b hb c => by
      obtain ⟨t, _, rfl⟩ := rowsR_of hb
      exact hP t c) (by rw [List.length_cons, hr, colsR_len, rowsR_len])
    rw [rowsR_len] at d
    by_cases e : x = t
    · show Wh _ ((if x = t then 1 else 0) * _)
      rw [if_pos e]
      have : (1 : Rat) * D (rowsR P n) (j0 :: r) = D (rowsR P n) (j0 :: r) := by grind
      rw [this]
      exact d
    · show Wh _ ((if x = t then 1 else 0) * _)
      rw [if_neg e]
      exact ⟨0, by grind, Nat.zero_le _⟩
  rw [colsR_len] at this
  exact this
/-! ### rows of whole numbers, stage by stage -/
def en (rs : List (List Int)) (i j : Nat) : Int := (rs.getD i []).getD j 0
def cA (A : List (List Int)) (σ : Nat → Nat) : Nat → Nat → Rat := fun i j => (en A (σ i) j : Rat)
def newRow (lead : List Int) (at_ : Nat) (last : Int) (m : Nat) (r : List Int) : List Int := List.replicate (at_ + 1) 0 ++ (List.range' (at_ + 1) (m - (at_ + 1))).map fun k => (lead.getD at_ 0 * r.getD k 0 - r.getD at_ 0 * lead.getD k 0).fdiv last
def belowL (rs : List (List Int)) (at_ : Nat) (last : Int) (m : Nat) : List (List Int) := rs.take (at_ + 1) ++ (rs.drop (at_ + 1)).map (newRow (rs.getD at_ []) at_ last m)
def exL (rs : List (List Int)) (a b : Nat) : List (List Int) := (rs.set a (rs.getD b [])).set b (rs.getD a [])
def swp (a b : Nat) (i : Nat) : Nat := if i = a then b else if i = b then a else i
structure Stg (A rs : List (List Int)) (m : Nat) (σ : Nat → Nat) (k : Nat) : Prop where
  len : rs.length = A.length
  wid : ∀ r ∈ rs, r.length = m
  kle : k ≤ A.length
  p1 : ∀ i, i < A.length → σ i < A.length
  p2 : ∀ i, i < A.length → ∃ t, t < A.length ∧ σ t = i
  lead : Lead (cA A σ) k
  val : ∀ i j, i < A.length → j < m → (en rs i j : Rat) = bb (cA A σ) (min i k) (cA A σ i) j
theorem en_at {rs : List (List Int)} {i j : Nat} {r : List Int} (h : rs[i]? = some r) : en rs i j = r.getD j 0 := by
  have e : rs.getD i [] = r := by
    rw [List.getD_eq_getElem?_getD, h]
    rfl
  unfold en
  rw [e]
theorem Stg.start {A : List (List Int)} {m : Nat} (h : ∀ r ∈ A, r.length = m) : Stg A A m id 0 where
  len := rfl
  wid := h
  kle := Nat.zero_le _
  p1 := fun i hi => hi
  p2 := fun i hi => ⟨i, hi, rfl⟩
  lead := fun t ht => by
    have : t = 0 := by omega
    subst this
    rw [dd_zero]
    decide +kernel
  val := fun i j hi hj => by rw [Nat.min_zero, bb_zero]; rfl
theorem bb_congr {P Q : Nat → Nat → Rat} {k : Nat} (h : ∀ t, t < k → P t = Q t) (v : Nat → Rat) (j : Nat) : bb P k v j = bb Q k v j := by
  unfold bb
  rw [rowsR_congr h]
theorem dd_congr {P Q : Nat → Nat → Rat} {k : Nat} (h : ∀ t, t < k → P t = Q t) : dd P k = dd Q k := by
  unfold dd
  rw [rowsR_congr h]
theorem en_ex {rs : List (List Int)} {a b : Nat} (ha : a < rs.length) (hb : b < rs.length) (i j : Nat) : en (exL rs a b) i j = en rs (swp a b i) j := by
  have e : (exL rs a b)[i]? = rs[swp a b i]? := by
    have ga : rs[a]? = some (rs.getD a []) := by rw [List.getD_eq_getElem?_getD, List.getElem?_eq_getElem ha]; rfl
    have gb : rs[b]? = some (rs.getD b []) := by rw [List.getD_eq_getElem?_getD, List.getElem?_eq_getElem hb]; rfl
    unfold exL swp
    by_cases x : i = a
    · subst x
      rw [if_pos rfl, gb]
      by_cases y : b = i
      · subst y
        rw [List.getElem?_set_self (by rw [List.length_set]; exact hb)]
      · rw [List.getElem?_set_ne y, List.getElem?_set_self ha]
    · rw [if_neg x]
      by_cases y : i = b
      · subst y
        rw [if_pos rfl, ga, List.getElem?_set_self (by rw [List.length_set]; exact hb)]
      · rw [if_neg y, List.getElem?_set_ne (fun z => y z.symm), List.getElem?_set_ne (fun z => x z.symm)]
  have g : (exL rs a b).getD i [] = rs.getD (swp a b i) [] := by
    rw [List.getD_eq_getElem?_getD, e, ← List.getD_eq_getElem?_getD]
  unfold en
  rw [g]
theorem Stg.ex {A rs : List (List Int)} {m : Nat} {σ : Nat → Nat} {k x : Nat} (S : Stg A rs m σ k) (kx : k ≤ x) (hx : x < A.length) : Stg A (exL rs k x) m (fun i => σ (swp k x i)) k := by
  have hk : k < A.length := by omega
  have same : ∀ t, t < k → cA A (fun i => σ (swp k x i)) t = cA A σ t := fun t ht => by
    have : swp k x t = t := by
      unfold swp
      rw [if_neg (by omega), if_neg (by omega)]
    show (fun j => ((en A (σ (swp k x t)) j : Int) : Rat)) = _
    rw [this]
    rfl
  have sw : ∀ i, i < A.length → swp k x i < A.length := fun i hi => by
    unfold swp
    split
    · exact hx
    · split
      · exact hk
      · exact hi
  refine ⟨?_, fun r hr => ?_, S.kle, fun i hi => S.p1 _ (sw i hi), fun i hi => ?_, fun t ht => ?_, fun i j hi hj => ?_⟩
  · unfold exL
    rw [List.length_set, List.length_set, S.len]
  · obtain ⟨i, hi⟩ := List.mem_iff_getElem?.mp hr
    unfold exL at hi
    have gk : rs.getD k [] ∈ rs := by
      rw [List.getD_eq_getElem?_getD, List.getElem?_eq_getElem (by rw [S.len]; exact hk)]
      exact List.getElem_mem _
    have gx : rs.getD x [] ∈ rs := by
      rw [List.getD_eq_getElem?_getD, List.getElem?_eq_getElem (by rw [S.len]; exact hx)]
      exact List.getElem_mem _
    rw [List.getElem?_set] at hi
    split at hi
    · split at hi
      · cases hi
        exact S.wid _ gk
      · cases hi
    · rw [List.getElem?_set] at hi
      split at hi
      · split at hi
        · cases hi
          exact S.wid _ gx
        · cases hi
      · exact S.wid _ (List.mem_of_getElem? hi)
  · obtain ⟨t, ht, e⟩ := S.p2 i hi
    refine ⟨swp k x t, sw t ht, ?_⟩
    have : swp k x (swp k x t) = t := by
      unfold swp
      repeat' split
      all_goals omega
    show σ (swp k x (swp k x t)) = i
    rw [this, e]
  · rw [dd_congr (Q := cA A σ) fun u hu => same u (by omega)]
    exact S.lead t ht
  · rw [en_ex (by rw [S.len]; exact hk) (by rw [S.len]; exact hx), S.val _ _ (sw i hi) hj, bb_congr (Q := cA A σ) (k := min i k) fun u hu => same u (by omega)]
    have mm : min (swp k x i) k = min i k := by
      unfold swp
      split
      · omega
      · split <;> omega
    rw [mm]
    rfl
theorem Stg.piv {A rs : List (List Int)} {m : Nat} {σ : Nat → Nat} {k : Nat} (S : Stg A rs m σ k) (hk : k < A.length) (hm : k < m) : (en rs k k : Rat) = dd (cA A σ) (k + 1) := by
  rw [S.val k k hk hm, Nat.min_self, dd_succ]
def Bd (A : List (List Int)) (M : Nat) : Prop := ∀ i j, (en A i j).natAbs ≤ M
theorem cA_wh {A : List (List Int)} {M : Nat} (h : Bd A M) (σ : Nat → Nat) (i j : Nat) : Wh M (cA A σ i j) := ⟨_, rfl, h _ _⟩
theorem new_at {lead r : List Int} {at_ m : Nat} {last : Int} (hm : at_ + 1 ≤ m) (j : Nat) (hj : j < m) : (newRow lead at_ last m r).getD j 0 = if j ≤ at_ then 0 else (lead.getD at_ 0 * r.getD j 0 - r.getD at_ 0 * lead.getD j 0).fdiv last := by
  unfold newRow
  rw [List.getD_eq_getElem?_getD]
  by_cases c : j ≤ at_
  · rw [if_pos c, List.getElem?_append_left (by rw [List.length_replicate]; omega), List.getElem?_replicate, if_pos (by omega)]
    rfl
  · rw [if_neg c, List.getElem?_append_right (by rw [List.length_replicate]; omega), List.length_replicate, List.getElem?_map, List.getElem?_range' (by omega)]
    show (lead.getD at_ 0 * r.getD (at_ + 1 + 1 * (j - (at_ + 1))) 0 - r.getD at_ 0 * lead.getD (at_ + 1 + 1 * (j - (at_ + 1))) 0).fdiv last = _
    rw [show at_ + 1 + 1 * (j - (at_ + 1)) = j by omega]
theorem new_len {lead r : List Int} {at_ m : Nat} {last : Int} (hm : at_ + 1 ≤ m) : (newRow lead at_ last m r).length = m := by
  unfold newRow
  rw [List.length_append, List.length_replicate, List.length_map, List.length_range']
  omega
/-- the next stage -/
theorem Stg.step {A rs : List (List Int)} {m M : Nat} {σ : Nat → Nat} {k : Nat} {last : Int} (S : Stg A rs m σ k) (hB : Bd A M) (hk : k < A.length) (hm : k + 1 ≤ m) (hd : (last : Rat) = dd (cA A σ) k) (hn : en rs k k ≠ 0) : Stg A (belowL rs k last m) m σ (k + 1) := by
  have ld : Lead (cA A σ) (k + 1) := fun t ht => by
    by_cases e : t = k + 1
    · subst e
      rw [← S.piv hk (by omega)]
      intro z
      exact hn (Rat.intCast_eq_zero_iff.mp z)
    · exact S.lead t (by omega)
  have gt : ∀ i, i < A.length → rs[i]? = some (rs.getD i []) := fun i hi => by
    rw [List.getD_eq_getElem?_getD, List.getElem?_eq_getElem (by rw [S.len]; exact hi)]
    rfl
  have tk : (rs.take (k + 1)).length = k + 1 := by
    rw [List.length_take, S.len]
    omega
  have old : ∀ i, i ≤ k → (belowL rs k last m)[i]? = rs[i]? := fun i hi => by
    unfold belowL
    rw [List.getElem?_append_left (by rw [tk]; omega), List.getElem?_take, if_pos (by omega)]
  have neu : ∀ i, k < i → i < A.length → (belowL rs k last m)[i]? = some (newRow (rs.getD k []) k last m (rs.getD i [])) := fun i hi hl => by
    unfold belowL
    rw [List.getElem?_append_right (by rw [tk]; omega), tk, List.getElem?_map, List.getElem?_drop, show k + 1 + (i - (k + 1)) = i by omega, gt i hl]
    rfl
  refine ⟨?_, fun r hr => ?_, hk, S.p1, S.p2, ld, fun i j hi hj => ?_⟩
  · unfold belowL
    rw [List.length_append, tk, List.length_map, List.length_drop, S.len]
    omega
  · unfold belowL at hr
    rcases List.mem_append.mp hr with h | h
    · exact S.wid r (List.mem_of_mem_take h)
    · obtain ⟨r', _, rfl⟩ := List.mem_map.mp h
      exact new_len hm
  · by_cases c : i ≤ k
    · have e : en (belowL rs k last m) i j = en rs i j := by
        have g : (belowL rs k last m).getD i [] = rs.getD i [] := by
          rw [List.getD_eq_getElem?_getD, old i c, ← List.getD_eq_getElem?_getD]
        unfold en
        rw [g]
      rw [e, S.val i j hi hj, Nat.min_eq_left c, Nat.min_eq_left (by omega)]
    · rw [en_at (neu i (by omega) hi), new_at hm j hj, Nat.min_eq_right (by omega)]
      by_cases c2 : j ≤ k
      · rw [if_pos c2, bb_low ld _ (by omega)]
        rfl
      · rw [if_neg c2]
        obtain ⟨z, ez, _⟩ := bb_wh (cA_wh hB σ) (cA_wh hB σ i) (k + 1) j
        have st := bb_step ld (cA A σ i) j
        have v1 := S.val k k hk (by omega)
        have v2 := S.val i j hi hj
        have v3 := S.val i k hi (by omega)
        have v4 := S.val k j hk hj
        rw [Nat.min_self] at v1 v4
        rw [Nat.min_eq_right (by omega)] at v2 v3
        rw [dd_succ, ← v1, ← v2, ← v3, ← v4, ← hd, ez] at st
        have st2 : last * z = en rs k k * en rs i j - en rs i k * en rs k j := by
          have : ((last * z : Int) : Rat) = ((en rs k k * en rs i j - en rs i k * en rs k j : Int) : Rat) := by
            rw [Rat.intCast_mul, Rat.intCast_sub, Rat.intCast_mul, Rat.intCast_mul]
            exact st
          exact Rat.intCast_inj.mp this
        have l0 : last ≠ 0 := fun e => S.lead k (Nat.le_refl k) (by rw [← hd, e]; rfl)
        rw [ez]
        show (((en rs k k * en rs i j - en rs i k * en rs k j).fdiv last : Int) : Rat) = (z : Rat)
        rw [← st2, Int.mul_fdiv_cancel_left _ l0]
theorem Stg.size {A rs : List (List Int)} {m M : Nat} {σ : Nat → Nat} {k : Nat} (S : Stg A rs m σ k) (hB : Bd A M) (h1 : 1 ≤ M) {i j : Nat} (hi : i < A.length) (hj : j < m) : (en rs i j).natAbs ≤ fac (A.length + 1) * M ^ (A.length + 1) := by
  obtain ⟨z, ez, bz⟩ := bb_wh (cA_wh hB σ) (cA_wh hB σ i) (min i k) j
  have e := S.val i j hi hj
  rw [ez] at e
  rw [Rat.intCast_inj.mp e]
  refine Nat.le_trans bz (Nat.mul_le_mul ?_ (Nat.pow_le_pow_right h1 (by omega)))
  have mono : ∀ a b, a ≤ b → fac a ≤ fac b := fun a b h => by
    induction h with
    | refl => exact Nat.le_refl _
    | step _ ih => exact Nat.le_trans ih (Nat.le_mul_of_pos_left _ (Nat.succ_pos _))
  exact mono _ _ (by omega)
/-- no row leads: what a column's list is then -/
theorem Stg.lost {A rs : List (List Int)} {m : Nat} {σ : Nat → Nat} {k : Nat} (S : Stg A rs m σ k) (hm : k < m) (h : ∀ i, k ≤ i → i < A.length → en rs i k = 0) {i : Nat} (hi : i < A.length) : sg (fun t => cA A σ i t * tp (cA A σ) k k t) k = cA A σ i k * dd (cA A σ) k := by
  by_cases c : i < k
  · exact led_own c
  · have cr := cramer (cA A σ) k k (cA A σ i)
    have v := S.val i k hi hm
    rw [Nat.min_eq_right (by omega), h i (by omega) hi] at v
    rw [← v] at cr
    have z : ((0 : Int) : Rat) = 0 := rfl
    rw [z] at cr
    grind

end E1

namespace E1
open PySem PySem.Spec PyProof.Rows L2
/-! ### elimination of a symmetric matrix, without exchange -/
theorem bb_sym {A : Nat → Nat → Rat} {n : Nat} (sy : ∀ i j, i < n → j < n → A i j = A j i) : ∀ k, k ≤ n → Lead A k → ∀ i j, i < n → j < n → bb A k (A i) j = bb A k (A j) i
  | 0, _, _, i, j, hi, hj => by rw [bb_zero, bb_zero]; exact sy i j hi hj
  | k + 1, hk, h, i, j, hi, hj => by
    have ih := bb_sym sy k (by omega) (h.low (Nat.le_succ k))
    have a := bb_step h (A i) j
    have b := bb_step h (A j) i
    rw [ih i j hi hj, ih i k hi (by omega), ih k j (by omega) hj] at a
    have d0 := h k (Nat.le_succ k)
    have e : dd A k * bb A (k + 1) (A i) j = dd A k * bb A (k + 1) (A j) i := by
      rw [a, b]
      grind
    have h1 : dd A k * (bb A (k + 1) (A i) j - bb A (k + 1) (A j) i) = 0 := by grind
    rcases Rat.mul_eq_zero.mp h1 with z | z
    · exact absurd z d0
    · grind
/-- what is taken off at step t -/
def off (A : Nat → Nat → Rat) (v : Nat → Rat) (j t : Nat) : Rat := bb A t v t * bb A t (A t) j / (dd A t * dd A (t + 1))
theorem bb_off {A : Nat → Nat → Rat} {k : Nat} (h : Lead A (k + 1)) (v : Nat → Rat) (j : Nat) : bb A (k + 1) v j / dd A (k + 1) = bb A k v j / dd A k - off A v j k := by
  have s := bb_step h v j
  have d0 := h k (Nat.le_succ k)
  have d1 := h (k + 1) (Nat.le_refl _)
  unfold off
  have dm : dd A k * dd A (k + 1) ≠ 0 := fun z => by
    rcases Rat.mul_eq_zero.mp z with z | z
    · exact d0 z
    · exact d1 z
  have x1 := Rat.div_mul_cancel (a := bb A (k + 1) v j) d1
  have x2 := Rat.div_mul_cancel (a := bb A k v j) d0
  have x3 := Rat.div_mul_cancel (a := bb A k v k * bb A k (A k) j) dm
  generalize bb A (k + 1) v j / dd A (k + 1) = p at *
  generalize bb A k v j / dd A k = q at *
  generalize bb A k v k * bb A k (A k) j / (dd A k * dd A (k + 1)) = r at *
  have e : (dd A k * dd A (k + 1)) * (p - (q - r)) = 0 := by grind
  rcases Rat.mul_eq_zero.mp e with z | z
  · exact absurd z dm
  · grind
theorem sum_off {A : Nat → Nat → Rat} (v : Nat → Rat) (j : Nat) : ∀ k, Lead A k → sg (off A v j) k = v j - bb A k v j / dd A k
  | 0, _ => by
    rw [bb_zero, dd_zero]
    show (0 : Rat) = v j - v j / 1
    grind
  | k + 1, h => by
    show sg (off A v j) k + off A v j k = _
    rw [sum_off v j k (h.low (Nat.le_succ k)), bb_off h]
    grind
/-- a row is what is taken off it in all -/
theorem row_off {A : Nat → Nat → Rat} {i n : Nat} (h : Lead A n) (hi : i < n) (j : Nat) : sg (off A (A i) j) n = A i j := by
  rw [sum_off _ _ n h, bb_own hi]
  have : (0 : Rat) / dd A n = 0 := by grind
  rw [this]
  grind
/-- the first place that is not above 0: what the list of Cramer's tops is worth -/
theorem cut_worth {A : Nat → Nat → Rat} {k : Nat} (h : Lead A k) : A k k - sg (fun t => A k t * (tp A k k t / dd A k)) k = dd A (k + 1) / dd A k := by
  have c := cramer A k k (A k)
  have d0 := h k (Nat.le_refl k)
  rw [dd_succ, c]
  have e : sg (fun t => A k t * (tp A k k t / dd A k)) k = (1 / dd A k) * sg (fun t => A k t * tp A k k t) k := by
    rw [← sg_mul]
    exact sg_congr k fun t _ => by grind
  rw [e]
  have x := Rat.div_mul_cancel (a := (1 : Rat)) d0
  generalize sg (fun t => A k t * tp A k k t) k = s at *
  have y : (A k k * dd A k - s) / dd A k = A k k - s / dd A k := by
    have x1 := Rat.div_mul_cancel (a := A k k * dd A k - s) d0
    have x2 := Rat.div_mul_cancel (a := s) d0
    generalize (A k k * dd A k - s) / dd A k = p at *
    generalize s / dd A k = q at *
    have : dd A k * (p - (A k k - q)) = 0 := by grind
    rcases Rat.mul_eq_zero.mp this with z | z
    · exact absurd z d0
    · grind
  rw [y]
  grind
/-! ### a matrix that is put together of triangles: they are the only ones -/
structure Tri (n : Nat) (A : Nat → Nat → Rat) (l : Nat → Nat → Rat) (d : Nat → Rat) : Prop where
  one : ∀ t, t < n → l t t = 1
  low : ∀ i t, i < t → l i t = 0
  eq : ∀ i j, A i j = sg (fun t => l i t * d t * l j t) n
theorem Tri.upto {n : Nat} {A l : Nat → Nat → Rat} {d : Nat → Rat} (h : Tri n A l d) (i : Nat) {j : Nat} (hj : j < n) : A i j = sg (fun t => l i t * d t * l j t) (j + 1) := by
  have e := sg_more (fun t => l i t * d t * l j t) (j + 1) (n - (j + 1)) fun t ht _ => by
    show l i t * d t * l j t = 0
    rw [h.low j t (by omega)]
    grind
  rw [show j + 1 + (n - (j + 1)) = n by omega] at e
  rw [h.eq, e]
theorem Tri.sym {n : Nat} {A l : Nat → Nat → Rat} {d : Nat → Rat} (h : Tri n A l d) (i j : Nat) : A i j = A j i := by
  rw [h.eq, h.eq]
  exact sg_congr n fun t _ => by grind
theorem Tri.cut {n : Nat} {A l : Nat → Nat → Rat} {d : Nat → Rat} (h : Tri n A l d) (hd : ∀ t, t < n → d t ≠ 0) (i : Nat) : ∀ k, k ≤ n → Cut A k (A i) fun j => A i j - sg (fun t => l i t * d t * l j t) k
  | 0, _ => by
    refine ⟨⟨fun _ => 0, fun j => ?_⟩, fun c hc => absurd hc (Nat.not_lt_zero c)⟩
    show A i j - 0 = A i j - 0
    rfl
  | k + 1, hk => by
    have cg := h.cut hd i k (by omega)
    have cp := h.cut hd k k (by omega)
    have hkn : k < n := by omega
    have gk : ∀ i, A i k - sg (fun t => l i t * d t * l k t) k = l i k * d k := fun i => by
      rw [h.upto i hkn]
      show sg (fun t => l i t * d t * l k t) k + l i k * d k * l k k - sg (fun t => l i t * d t * l k t) k = _
      rw [h.one k hkn]
      grind
    have pj : ∀ j, A k j - sg (fun t => l k t * d t * l j t) k = d k * l j k := fun j => by
      rw [h.sym k j, h.upto j hkn]
      have e : sg (fun t => l k t * d t * l j t) k = sg (fun t => l j t * d t * l k t) k := sg_congr k fun t _ => by grind
      rw [e]
      show sg (fun t => l j t * d t * l k t) k + l j k * d k * l k k - sg (fun t => l j t * d t * l k t) k = _
      rw [h.one k hkn]
      grind
    have pk : A k k - sg (fun t => l k t * d t * l k t) k ≠ 0 := by
      rw [gk k, h.one k hkn]
      have := hd k hkn
      grind
    have nx := cg.next cp pk
    have fe : (fun j => A i j - sg (fun t => l i t * d t * l j t) k - (A i k - sg (fun t => l i t * d t * l k t) k) / (A k k - sg (fun t => l k t * d t * l k t) k) * (A k j - sg (fun t => l k t * d t * l j t) k)) = fun j => A i j - sg (fun t => l i t * d t * l j t) (k + 1) := funext fun j => by
      rw [gk i, gk k, pj j, h.one k hkn]
      show _ = A i j - (sg (fun t => l i t * d t * l j t) k + l i k * d k * l j k)
      have x := Rat.div_mul_cancel (a := l i k * d k) (hd k hkn)
      have y : (1 : Rat) * d k = d k := by grind
      rw [y]
      generalize l i k * d k / d k = q at *
      rw [← x]
      grind
    rw [← fe]
    exact nx
theorem Tri.bb {n : Nat} {A l : Nat → Nat → Rat} {d : Nat → Rat} (h : Tri n A l d) (hd : ∀ t, t < n → d t ≠ 0) {k : Nat} (hk : k < n) (j : Nat) : E1.bb A k (A k) j = d k * l j k * E1.dd A k := by
  rw [(h.cut hd k k (by omega)).bb j, h.sym k j, h.upto j hk]
  have e : sg (fun t => l k t * d t * l j t) k = sg (fun t => l j t * d t * l k t) k := sg_congr k fun t _ => by grind
  rw [e]
  show (sg (fun t => l j t * d t * l k t) k + l j k * d k * l k k - sg (fun t => l j t * d t * l k t) k) * _ = _
  rw [h.one k hk]
  grind
theorem Tri.dd {n : Nat} {A l : Nat → Nat → Rat} {d : Nat → Rat} (h : Tri n A l d) (hd : ∀ t, t < n → d t ≠ 0) {k : Nat} (hk : k < n) : E1.dd A (k + 1) = d k * E1.dd A k := by
  rw [dd_succ, h.bb hd hk, h.one k hk]
  grind
theorem Tri.led {n : Nat} {A l : Nat → Nat → Rat} {d : Nat → Rat} (h : Tri n A l d) (hd : ∀ t, t < n → d t ≠ 0) : ∀ k, k ≤ n → E1.dd A k ≠ 0
  | 0, _ => by rw [dd_zero]; decide +kernel
  | k + 1, hk => by
    rw [h.dd hd (by omega)]
    intro z
    rcases Rat.mul_eq_zero.mp z with z | z
    · exact hd k (by omega) z
    · exact h.led hd k (by omega) z
/-! ### the triangles that elimination tells; above nought -/
def lo (A : Nat → Nat → Rat) (i t : Nat) : Rat := bb A t (A t) i / dd A (t + 1)
def di (A : Nat → Nat → Rat) (t : Nat) : Rat := dd A (t + 1) / dd A t
theorem off_ldl {A : Nat → Nat → Rat} {n : Nat} (sy : ∀ i j, i < n → j < n → A i j = A j i) (h : Lead A n) {i j t : Nat} (hi : i < n) (hj : j < n) (ht : t < n) : off A (A i) j t = lo A i t * di A t * lo A j t := by
  unfold off lo di
  rw [bb_sym sy t (by omega) (h.low (by omega)) i t hi ht]
  have d0 := h t (by omega)
  have d1 := h (t + 1) (by omega)
  have dm : dd A t * dd A (t + 1) ≠ 0 := fun z => by
    rcases Rat.mul_eq_zero.mp z with z | z
    · exact d0 z
    · exact d1 z
  have x1 := Rat.div_mul_cancel (a := bb A t (A t) i) d1
  have x2 := Rat.div_mul_cancel (a := bb A t (A t) j) d1
  have x3 := Rat.div_mul_cancel (a := dd A (t + 1)) d0
  have x4 := Rat.div_mul_cancel (a := bb A t (A t) i * bb A t (A t) j) dm
  generalize bb A t (A t) i / dd A (t + 1) = p at *
  generalize bb A t (A t) j / dd A (t + 1) = q at *
  generalize dd A (t + 1) / dd A t = r at *
  generalize bb A t (A t) i * bb A t (A t) j / (dd A t * dd A (t + 1)) = u at *
  rw [← x1, ← x2] at x4
  have e : (dd A t * dd A (t + 1)) * (u - p * r * q) = 0 := by
    have y : u * (dd A t * dd A (t + 1)) = p * dd A (t + 1) * (q * dd A (t + 1)) := x4
    have y2 : r * dd A t = dd A (t + 1) := x3
    generalize dd A (t + 1) = b at *
    generalize dd A t = a at *
    subst y2
    grind
  rcases Rat.mul_eq_zero.mp e with z | z
  · exact absurd z dm
  · grind
theorem ldl {A : Nat → Nat → Rat} {n : Nat} (sy : ∀ i j, i < n → j < n → A i j = A j i) (h : Lead A n) {i j : Nat} (hi : i < n) (hj : j < n) : A i j = sg (fun t => lo A i t * di A t * lo A j t) n := by
  rw [← row_off h hi j]
  exact sg_congr n fun t ht => off_ldl sy h hi hj ht
theorem ldl_part {A : Nat → Nat → Rat} {n : Nat} (sy : ∀ i j, i < n → j < n → A i j = A j i) (h : Lead A n) {i j k : Nat} (hi : i < n) (hj : j < n) (hk : k ≤ n) : sg (fun t => lo A i t * di A t * lo A j t) k = A i j - bb A k (A i) j / dd A k := by
  rw [← sum_off _ _ k (h.low hk)]
  exact sg_congr k fun t ht => (off_ldl sy h hi hj (by omega)).symm
theorem lo_one {A : Nat → Nat → Rat} {t : Nat} (h : dd A (t + 1) ≠ 0) : lo A t t = 1 := by
  unfold lo
  rw [← dd_succ]
  have x := Rat.div_mul_cancel (a := dd A (t + 1)) h
  generalize dd A (t + 1) / dd A (t + 1) = p at *
  have : dd A (t + 1) * (p - 1) = 0 := by grind
  rcases Rat.mul_eq_zero.mp this with z | z
  · exact absurd z h
  · grind
theorem lo_low {A : Nat → Nat → Rat} {i t : Nat} (h : Lead A t) (hi : i < t) : lo A i t = 0 := by
  unfold lo
  rw [bb_low h _ hi]
  grind
/-- what a list is worth -/
def worth (A : Nat → Nat → Rat) (n : Nat) (x : Nat → Rat) : Rat := sg (fun i => x i * sg (fun j => A i j * x j) n) n
theorem sg_both (f : Nat → Nat → Rat) (n : Nat) : ∀ m, sg (fun k => sg (fun s => f s k) n) m = sg (fun s => sg (fun k => f s k) m) n
  | 0 => (sg_zero n fun _ _ => rfl).symm
  | m + 1 => by
    show sg (fun k => sg (fun s => f s k) n) m + sg (fun s => f s m) n = _
    rw [sg_both f n m, ← sg_add]
    rfl
theorem worth_ldl {A l : Nat → Nat → Rat} {d : Nat → Rat} {n : Nat} (h : ∀ i j, i < n → j < n → A i j = sg (fun t => l i t * d t * l j t) n) (x : Nat → Rat) :
    worth A n x = sg (fun t => d t * (sg (fun i => l i t * x i) n * sg (fun i => l i t * x i) n)) n := by
  unfold worth
  have e1 : sg (fun i => x i * sg (fun j => A i j * x j) n) n = sg (fun i => sg (fun t => d t * (l i t * x i) * sg (fun j => l j t * x j) n) n) n := sg_congr n fun i hi => by
    have e2 : sg (fun j => A i j * x j) n = sg (fun j => sg (fun t => (l i t * d t) * (l j t * x j)) n) n := sg_congr n fun j hj => by
      rw [h i j hi hj]
      have c : sg (fun t => l i t * d t * l j t) n * x j = x j * sg (fun t => l i t * d t * l j t) n := by grind
      rw [c, ← sg_mul]
      exact sg_congr n fun t _ => by grind
    rw [e2, sg_both, ← sg_mul]
    refine sg_congr n fun t _ => ?_
    rw [sg_mul]
    grind
  rw [e1, sg_both]
  refine sg_congr n fun t _ => ?_
  have e3 : sg (fun i => d t * (l i t * x i) * sg (fun j => l j t * x j) n) n = sg (fun i => (d t * sg (fun j => l j t * x j) n) * (l i t * x i)) n := sg_congr n fun i _ => by grind
  rw [e3, sg_mul]
  grind
theorem sg_alone {f : Nat → Rat} {t : Nat} : ∀ n, t < n → (∀ i, i < n → i ≠ t → f i = 0) → sg f n = f t
  | 0, h, _ => absurd h (Nat.not_lt_zero t)
  | n + 1, h, z => by
    show sg f n + f n = f t
    by_cases c : t = n
    · subst c
      rw [sg_zero t fun i hi => z i (by omega) (by omega)]
      grind
    · rw [sg_alone n (by omega) fun i hi ne => z i (by omega) ne, z n (by omega) (fun e => c e.symm)]
      grind
theorem sg_low {f : Nat → Rat} : ∀ n, (∀ i, i < n → 0 ≤ f i) → 0 ≤ sg f n
  | 0, _ => by
    show (0 : Rat) ≤ 0
    exact Rat.le_refl
  | n + 1, h => by
    show 0 ≤ sg f n + f n
    have a := sg_low n fun i hi => h i (by omega)
    have b := h n (by omega)
    grind
theorem sg_high {f : Nat → Rat} {t : Nat} : ∀ n, t < n → (∀ i, i < n → 0 ≤ f i) → 0 < f t → 0 < sg f n
  | 0, h, _, _ => absurd h (Nat.not_lt_zero t)
  | n + 1, h, z, p => by
    show 0 < sg f n + f n
    by_cases c : t = n
    · subst c
      have a := sg_low t fun i hi => z i (by omega)
      grind
    · have a := sg_high n (by omega) (fun i hi => z i (by omega)) p
      have b := z n (by omega)
      grind
theorem sq_low (y : Rat) : 0 ≤ y * y := by
  rcases (by grind : 0 ≤ y ∨ 0 ≤ -y) with h | h
  · exact Rat.mul_nonneg h h
  · have := Rat.mul_nonneg h h
    grind
/-- a list that the triangle takes to noughts is noughts -/
theorem tri_free {l : Nat → Nat → Rat} {n : Nat} {x : Nat → Rat} (one : ∀ t, t < n → l t t = 1) (low : ∀ i t, i < t → t < n → l i t = 0) (h : ∀ t, t < n → sg (fun i => l i t * x i) n = 0) : ∀ m t, t < n → n ≤ t + m → x t = 0
  | 0, t, ht, hm => absurd ht (by omega)
  | m + 1, t, ht, hm => by
    have e := h t ht
    rw [sg_alone (t := t) n ht fun i hi ne => ?_, one t ht] at e
    · grind
    · show l i t * x i = 0
      by_cases c : i < t
      · rw [low i t c ht]
        grind
      · rw [tri_free one low h m i hi (by omega)]
        grind
/-- above nought -/
def Abo (n : Nat) (A : Nat → Nat → Rat) : Prop := ∀ x : Nat → Rat, (∃ t, t < n ∧ x t ≠ 0) → 0 < worth A n x
theorem abo_of {A l : Nat → Nat → Rat} {d : Nat → Rat} {n : Nat} (h : ∀ i j, i < n → j < n → A i j = sg (fun t => l i t * d t * l j t) n) (hd : ∀ t, t < n → 0 < d t) (one : ∀ t, t < n → l t t = 1) (low : ∀ i t, i < t → t < n → l i t = 0) : Abo n A := fun x hx => by
  rw [worth_ldl h]
  have z : ∀ t, t < n → 0 ≤ d t * (sg (fun i => l i t * x i) n * sg (fun i => l i t * x i) n) := fun t ht => Rat.mul_nonneg (Rat.le_of_lt (hd t ht)) (sq_low _)
  by_cases c : ∃ t, t < n ∧ sg (fun i => l i t * x i) n ≠ 0
  · obtain ⟨t, ht, ne⟩ := c
    refine sg_high (t := t) n ht z ?_
    have s := sq_low (sg (fun i => l i t * x i) n)
    have dp := hd t ht
    generalize sg (fun i => l i t * x i) n = y at *
    have yy : y * y ≠ 0 := fun e => by
      rcases Rat.mul_eq_zero.mp e with e | e <;> exact ne e
    have y0 : 0 < y * y := by grind
    exact Rat.mul_pos dp y0
  · obtain ⟨t, ht, ne⟩ := hx
    have f := tri_free one low (x := x) (fun t ht => Decidable.byContradiction fun e => c ⟨t, ht, e⟩) n t ht (by omega)
    exact absurd f ne
/-- each list is reached by the mirrored triangle -/
theorem tri_reach {l : Nat → Nat → Rat} {n : Nat} (one : ∀ t, t < n → l t t = 1) (low : ∀ i t, i < t → t < n → l i t = 0) (y : Nat → Rat) : ∃ x : Nat → Rat, ∀ t, t < n → sg (fun i => l i t * x i) n = y t := by
  have d1 : ∀ k, k ≤ n → dd (fun t i => l i t) k = 1 := fun k => by
    induction k with
    | zero => intro _; exact dd_zero _
    | succ k ih =>
      intro hk
      have c : Cut (fun t i => l i t) k ((fun t i => l i t) k) ((fun t i => l i t) k) := by
        refine ⟨⟨fun _ => 0, fun j => ?_⟩, fun c hc => low c k hc (by omega)⟩
        have z : sg (fun t => 0 * (fun t i => l i t) t j) k = 0 := sg_zero k fun i _ => by grind
        rw [z]
        grind
      rw [dd_succ, c.bb, ih (by omega)]
      show l k k * 1 = 1
      rw [one k (by omega)]
      grind
  exact any_side (P := fun t i => l i t) (n := n) (fun t ht => by rw [d1 t ht]; decide +kernel) y
theorem abo_not {A l : Nat → Nat → Rat} {d : Nat → Rat} {n p : Nat} (h : ∀ i j, i < n → j < n → A i j = sg (fun t => l i t * d t * l j t) n) (one : ∀ t, t < n → l t t = 1) (low : ∀ i t, i < t → t < n → l i t = 0) (hp : p < n) (dp : d p ≤ 0) : ¬ Abo n A := fun a => by
  obtain ⟨x, hx⟩ := tri_reach one low fun t => if t = p then 1 else 0
  have x0 : ∃ t, t < n ∧ x t ≠ 0 := Decidable.byContradiction fun c => by
    have z : ∀ t, t < n → x t = 0 := fun t ht => Decidable.byContradiction fun e => c ⟨t, ht, e⟩
    have := hx p hp
    rw [if_pos rfl, sg_zero n fun i hi => by rw [z i hi]; grind] at this
    exact absurd this (by decide +kernel)
  have w := a x x0
  rw [worth_ldl h, sg_alone (t := p) n hp fun i hi ne => ?_, hx p hp, if_pos rfl] at w
  · grind
  · show d i * (sg (fun j => l j i * x j) n * sg (fun j => l j i * x j) n) = 0
    rw [hx i hi, if_neg ne]
    grind
/-- the list that a place not above nought gives -/
def cutX (A : Nat → Nat → Rat) (k t : Nat) : Rat := if t < k then -(tp A k k t / dd A k) else if t = k then 1 else 0
theorem cut_row {A : Nat → Nat → Rat} {k n : Nat} (hk : k < n) (i : Nat) : sg (fun j => A i j * cutX A k j) n = A i k - sg (fun t => A i t * (tp A k k t / dd A k)) k := by
  have e := sg_more (fun j => A i j * cutX A k j) (k + 1) (n - (k + 1)) fun j hj _ => by
    show A i j * cutX A k j = 0
    unfold cutX
    rw [if_neg (by omega), if_neg (by omega)]
    grind
  rw [show k + 1 + (n - (k + 1)) = n by omega] at e
  rw [e]
  show sg (fun j => A i j * cutX A k j) k + A i k * cutX A k k = _
  have e2 : sg (fun j => A i j * cutX A k j) k = sg (fun t => (-1) * (A i t * (tp A k k t / dd A k))) k := sg_congr k fun t ht => by
    unfold cutX
    rw [if_pos ht]
    grind
  have e3 : cutX A k k = 1 := by
    unfold cutX
    rw [if_neg (Nat.lt_irrefl k), if_pos rfl]
  rw [e2, e3, sg_mul]
  grind
theorem cut_zero {A : Nat → Nat → Rat} {k n i : Nat} (h : Lead A k) (hk : k < n) (hi : i < k) : sg (fun j => A i j * cutX A k j) n = 0 := by
  rw [cut_row hk]
  have o := led_own (P := A) (n := k) (j0 := k) hi
  have d0 := h k (Nat.le_refl k)
  have e : sg (fun t => A i t * (tp A k k t / dd A k)) k = (1 / dd A k) * sg (fun t => A i t * tp A k k t) k := by
    rw [← sg_mul]
    exact sg_congr k fun t _ => by grind
  rw [e, o]
  have x := Rat.div_mul_cancel (a := (1 : Rat)) d0
  generalize 1 / dd A k = p at *
  have : p * (A i k * dd A k) = A i k * (p * dd A k) := by grind
  rw [this, x]
  grind
theorem cut_val {A : Nat → Nat → Rat} {k n : Nat} (h : Lead A k) (hk : k < n) : worth A n (cutX A k) = dd A (k + 1) / dd A k := by
  unfold worth
  rw [sg_alone (t := k) n hk fun i hi ne => ?_]
  · rw [cut_row hk, cut_worth h]
    unfold cutX
    rw [if_neg (Nat.lt_irrefl k), if_pos rfl]
    grind
  · show cutX A k i * sg (fun j => A i j * cutX A k j) n = 0
    by_cases c : i < k
    · rw [cut_zero h hk c]
      grind
    · unfold cutX
      rw [if_neg c, if_neg ne]
      grind
/-! ### rows that are each taken a number of times -/
def mulAll (c : Nat → Rat) : Nat → Rat
  | 0 => 1
  | k + 1 => mulAll c k * c k
theorem D_scale {P A : Nat → Nat → Rat} {c : Nat → Rat} : ∀ (k : Nat), (∀ i j, i < k → P i j = c i * A i j) → ∀ cols, D (rowsR P k) cols = mulAll c k * D (rowsR A k) cols
  | 0, _, cols => by
    show D [] cols = 1 * D [] cols
    grind
  | k + 1, h, cols => by
    show E (fun x r => P k x * D (rowsR P k) r) cols = (mulAll c k * c k) * E (fun x r => A k x * D (rowsR A k) r) cols
    rw [← E_smul]
    refine E_congr cols _ _ fun x _ r => ?_
    rw [h k x (Nat.lt_succ_self k), D_scale k (fun i j hi => h i j (by omega)) r]
    grind
theorem dd_scale {P A : Nat → Nat → Rat} {c : Nat → Rat} {k : Nat} (h : ∀ i j, i < k → P i j = c i * A i j) : dd P k = mulAll c k * dd A k := D_scale k h _
theorem bb_scale {P A : Nat → Nat → Rat} {c : Nat → Rat} {k : Nat} (h : ∀ i j, i < k → P i j = c i * A i j) (v : Nat → Rat) (s : Rat) (j : Nat) : bb P k (fun t => s * v t) j = s * mulAll c k * bb A k v j := by
  unfold bb
  show E (fun x r => (s * v x) * D (rowsR P k) r) _ = s * mulAll c k * E (fun x r => v x * D (rowsR A k) r) _
  rw [← E_smul]
  refine E_congr _ _ _ fun x _ r => ?_
  rw [D_scale k h r]
  grind
theorem mulAll_ne {c : Nat → Rat} : ∀ k, (∀ i, i < k → c i ≠ 0) → mulAll c k ≠ 0
  | 0, _ => by
    show (1 : Rat) ≠ 0
    decide +kernel
  | k + 1, h => fun z => by
    rcases Rat.mul_eq_zero.mp z with z | z
    · exact mulAll_ne k (fun i hi => h i (by omega)) z
    · exact h k (Nat.lt_succ_self k) z
theorem mulAll_pos {c : Nat → Rat} : ∀ k, (∀ i, i < k → 0 < c i) → 0 < mulAll c k
  | 0, _ => by
    show (0 : Rat) < 1
    decide +kernel
  | k + 1, h => Rat.mul_pos (mulAll_pos k fun i hi => h i (by omega)) (h k (Nat.lt_succ_self k))
theorem lead_scale {P A : Nat → Nat → Rat} {c : Nat → Rat} {n k : Nat} (h : ∀ i j, i < n → P i j = c i * A i j) (hc : ∀ i, i < n → c i ≠ 0) (hk : k ≤ n) (l : Lead P k) : Lead A k := fun t ht z => by
  have := l t ht
  rw [dd_scale (c := c) fun i j hi => h i j (by omega), z] at this
  exact this (by grind)
/-- the triangle is the same -/
theorem lo_scale {P A : Nat → Nat → Rat} {c : Nat → Rat} {n t : Nat} (h : ∀ i j, i < n → P i j = c i * A i j) (hc : ∀ i, i < n → c i ≠ 0) (ht : t < n) (l : dd A (t + 1) ≠ 0) (i : Nat) : lo P i t = lo A i t := by
  have h' : ∀ i j, i < t → P i j = c i * A i j := fun i j hi => h i j (by omega)
  have eP : P t = fun j => c t * A t j := funext fun j => h t j ht
  unfold lo
  rw [dd_scale (c := c) fun i j hi => h i j (by omega), eP, bb_scale h']
  have m0 : mulAll c (t + 1) ≠ 0 := mulAll_ne _ fun i hi => hc i (by omega)
  have m1 : c t * mulAll c t = mulAll c (t + 1) := by
    show _ = mulAll c t * c t
    grind
  rw [m1]
  have x := Rat.div_mul_cancel (a := bb A t (A t) i) l
  have ml : mulAll c (t + 1) * dd A (t + 1) ≠ 0 := fun z => by
    rcases Rat.mul_eq_zero.mp z with z | z
    · exact m0 z
    · exact l z
  have y := Rat.div_mul_cancel (a := mulAll c (t + 1) * bb A t (A t) i) ml
  generalize mulAll c (t + 1) * bb A t (A t) i / (mulAll c (t + 1) * dd A (t + 1)) = u at *
  generalize bb A t (A t) i / dd A (t + 1) = v at *
  rw [← x] at y
  have e : (mulAll c (t + 1) * dd A (t + 1)) * (u - v) = 0 := by grind
  rcases Rat.mul_eq_zero.mp e with z | z
  · exact absurd z ml
  · grind
/-! ### what the rows that are taken a number of times tell of the matrix -/
theorem di_pos_lead {q : Nat → Nat → Rat} {n : Nat} (h : ∀ k, k < n → 0 < dd q (k + 1)) : Lead q n ∧ ∀ k, k < n → 0 < di q k := by
  have all : ∀ k, k ≤ n → 0 < dd q k := fun k hk => by
    cases k with
    | zero =>
      rw [dd_zero]
      decide +kernel
    | succ k => exact h k hk
  refine ⟨fun t ht z => ?_, fun k hk => by
    unfold di
    rw [Rat.div_def]
    exact Rat.mul_pos (all _ hk) (Rat.inv_pos.mpr (all _ (by omega)))⟩
  have := all t ht
  rw [z] at this
  exact absurd this (by decide +kernel)
theorem scale_pos {P q : Nat → Nat → Rat} {c : Nat → Rat} {n : Nat} (hs : ∀ i j, i < n → P i j = c i * q i j) (hc : ∀ i, i < n → 0 < c i) (h : ∀ k, k < n → 0 < dd P (k + 1)) : ∀ k, k < n → 0 < dd q (k + 1) := fun k hk => by
  have := h k hk
  rw [dd_scale (c := c) fun i j hi => hs i j (by omega)] at this
  have m := mulAll_pos (c := c) (k + 1) fun i hi => hc i (by omega)
  refine Rat.not_le.mp fun z => ?_
  have n2 : 0 ≤ mulAll c (k + 1) * (-dd q (k + 1)) := Rat.mul_nonneg (Rat.le_of_lt m) (by grind)
  grind
theorem div_both {m x y : Rat} (hm : m ≠ 0) (hy : y ≠ 0) : m * x / (m * y) = x / y := by
  have ml : m * y ≠ 0 := fun z => by
    rcases Rat.mul_eq_zero.mp z with z | z
    · exact hm z
    · exact hy z
  have h1 := Rat.div_mul_cancel (a := m * x) ml
  have h2 := Rat.div_mul_cancel (a := x) hy
  generalize m * x / (m * y) = u at *
  generalize x / y = v at *
  have e : m * y * (u - v) = 0 := by
    rw [← h2] at h1
    grind
  rcases Rat.mul_eq_zero.mp e with z | z
  · exact absurd z ml
  · grind
theorem di_scale {P q : Nat → Nat → Rat} {c : Nat → Rat} {n k : Nat} (hs : ∀ i j, i < n → P i j = c i * q i j) (hc : ∀ i, i < n → 0 < c i) (hk : k < n) (d0 : dd q k ≠ 0) : dd P (k + 1) / (dd P k * c k) = di q k := by
  have hne : ∀ i, i < n → c i ≠ 0 := fun i hi z => by
    have := hc i hi
    rw [z] at this
    exact absurd this (by decide +kernel)
  rw [dd_scale (c := c) fun i j hi => hs i j (by omega), dd_scale (k := k) (c := c) fun i j hi => hs i j (by omega)]
  have m1 : mulAll c (k + 1) ≠ 0 := mulAll_ne _ fun i hi => hne i (by omega)
  have e : mulAll c k * dd q k * c k = mulAll c (k + 1) * dd q k := by
    show _ = mulAll c k * c k * dd q k
    grind
  rw [e]
  unfold di
  exact div_both m1 d0
theorem cut_scale {P q : Nat → Nat → Rat} {c : Nat → Rat} {n k : Nat} (hs : ∀ i j, i < n → P i j = c i * q i j) (hc : ∀ i, i < n → 0 < c i) (l : Lead P k) (hk : k < n) :
    (∀ i, i < k → sg (fun j => q i j * cutX P k j) n = 0) ∧ c k * sg (fun j => q k j * cutX P k j) n = dd P (k + 1) / dd P k := by
  have e : ∀ i, i < n → sg (fun j => P i j * cutX P k j) n = c i * sg (fun j => q i j * cutX P k j) n := fun i hi => by
    rw [← sg_mul]
    refine sg_congr n fun j _ => ?_
    rw [hs i j hi]
    grind
  refine ⟨fun i hi => ?_, ?_⟩
  · have z := cut_zero l hk hi
    rw [e i (by omega)] at z
    rcases Rat.mul_eq_zero.mp z with z | z
    · have := hc i (by omega)
      rw [z] at this
      exact absurd this (by decide +kernel)
    · exact z
  · rw [← e k hk, cut_row hk, cut_worth l]
/-- a list that shows that a matrix is not above nought -/
structure Shows (n : Nat) (q : Nat → Nat → Rat) (x : Nat → Rat) (k : Nat) : Prop where
  lt : k < n
  one : x k = 1
  low : ∀ t, k < t → x t = 0
  rows : ∀ i, i < k → sg (fun j => q i j * x j) n = 0
  own : sg (fun j => q k j * x j) n ≤ 0
theorem Shows.worth {n : Nat} {q : Nat → Nat → Rat} {x : Nat → Rat} {k : Nat} (h : Shows n q x k) : worth q n x ≤ 0 := by
  unfold E1.worth
  rw [sg_alone (t := k) n h.lt fun i hi ne => ?_]
  · rw [h.one]
    have := h.own
    grind
  · show x i * sg (fun j => q i j * x j) n = 0
    by_cases c : i < k
    · rw [h.rows i c]
      grind
    · rw [h.low i (by omega)]
      grind
theorem Shows.not {n : Nat} {q : Nat → Nat → Rat} {x : Nat → Rat} {k : Nat} (h : Shows n q x k) : ¬ Abo n q := fun a => by
  have p := a x ⟨k, h.lt, by rw [h.one]; decide +kernel⟩
  have w := h.worth
  grind
theorem shows_of {P q : Nat → Nat → Rat} {c : Nat → Rat} {n k : Nat} (hs : ∀ i j, i < n → P i j = c i * q i j) (hc : ∀ i, i < n → 0 < c i) (l : Lead P k) (hk : k < n) (neg : dd P (k + 1) ≤ 0) (pos : 0 < dd P k) : Shows n q (cutX P k) k := by
  obtain ⟨h1, h2⟩ := cut_scale hs hc l hk
  refine ⟨hk, ?_, fun t ht => ?_, h1, ?_⟩
  · unfold cutX
    rw [if_neg (Nat.lt_irrefl k), if_pos rfl]
  · unfold cutX
    rw [if_neg (by omega), if_neg (by omega)]
  · have d : dd P (k + 1) / dd P k ≤ 0 := by
      rw [Rat.div_def]
      have := Rat.inv_pos.mpr pos
      have n2 : 0 ≤ (-dd P (k + 1)) * (dd P k)⁻¹ := Rat.mul_nonneg (by grind) (Rat.le_of_lt this)
      grind
    rw [← h2] at d
    refine Rat.not_lt.mp fun z => ?_
    have := Rat.mul_pos (hc k hk) z
    grind
theorem abo_lead {q : Nat → Nat → Rat} {n : Nat} (sy : ∀ i j, i < n → j < n → q i j = q j i) (l : Lead q n) (h : ∀ k, k < n → 0 < di q k) : Abo n q :=
  abo_of (fun i j hi hj => ldl sy l hi hj) h (fun t ht => lo_one (l (t + 1) ht)) fun i t hi ht => lo_low (l.low (by omega)) hi

end E1

namespace L2
open PySem PySem.Spec PyProof.Rows
/-! ### zip(*rows): rows a list of lists of one length, a name as the target -/
theorem zs_typeCall (us : List Value) : checkTypeCall "zip" ⟨us, []⟩ = pure () := by kernel_rfl
theorem zs_newCall (us : List Value) : checkBuiltinCall "zip.__new__" ⟨.type "zip" :: us, []⟩ = pure () := by
  cases us with
  | nil => kernel_rfl
  | cons a us => kernel_rfl
theorem zs_init (o : Value) (us : List Value) : argsOk "object.__init__" ⟨o :: us, []⟩ := by unfold argsOk; kernel_rfl
abbrev ZRec (h : Heap) (z TI TO : Addr) (x : Value) (f : Bool) : Prop := h.get? z = some { cls := .type "zip", dict := none, data := .fields #[x, .bool f, .bool false, .ref TI, .ref TO], slots := #[] }
abbrev TupAt (h : Heap) (T : Addr) (us : List Value) : Prop := h.get? T = some { cls := .type "tuple", data := .seq us.toArray }
def refsFrom (n r : Nat) : List Value := (List.range' n r).map Value.ref
structure ZMid (h0 h : Heap) (n : Nat) (ls : List Addr) (i k : Nat) (x : Value) (f : Bool) (vals : List Value) (p : Nat) : Prop where
  its : ∀ (j : Nat) (l : Addr), ls[j]? = some l → h.IsListIter (n + j) l (if j < k then i + 1 else i)
  sz : h.objs.size = h0.objs.size
  far : ∀ c o, c < n ∨ n + ls.length + 2 < c → h0.get? c = some o → h.get? c = some o
  ti : TupAt h (n + ls.length) (refsFrom n ls.length)
  z : ZRec h (n + ls.length + 2) (n + ls.length) (n + ls.length + 1) x f
  to : ∃ us : List Value, us.length = ls.length ∧ TupAt h (n + ls.length + 1) us ∧ us.take p = vals.take p
/-- what is drawn at turn i -/
def ZDraw (h0 : Heap) (n : Nat) (ls : List Addr) (i : Nat) (vals : List Value) : Prop := vals.length = ls.length ∧ ∀ (j : Nat) (l : Addr), ls[j]? = some l → l < n ∧ ∃ (its : Array Value) (v : Value), h0.IsList l its ∧ its[i]? = some v ∧ vals[j]? = some v
section
variable {prog : Program} {w : World} {A : Around} {E : Value → Shared → Prop} {s : Shared} {h0 : Heap} {n i k p : Nat} {ls : List Addr} {x : Value} {f : Bool} {vals : List Value}
theorem zs_alive {a : Addr} {Q : Option Obj → Shared → Prop} (h : ∀ o, Q o s) : wpAny (model prog w) A (loadIfAlive a) Q E s := fun _ _ _ => h _
theorem zs_free {z TI TO : Addr} {Q : Bool → Shared → Prop} (hz : ZRec s.heap z TI TO x f) (hx : x = .none ∨ ∃ T : Nat, x = rawInt T) (h1 : Q true s)
    (h0 : ∀ g, ZRec g z TI TO x true → Heap.SameBut z s.heap g → Q false { s with heap := g }) : wpAny (model prog w) A (Builtin.SmallTypes.ownedTupleIsFree (.ref z)) Q E s := by
  unfold Builtin.SmallTypes.ownedTupleIsFree
  rcases hx with rfl | ⟨T, rfl⟩
  · exact wpAny_bind (wpAny_field hz rfl rfl (wpAny_pure h1))
  · refine wpAny_bind (wpAny_field hz rfl rfl ?_)
    show wpAny _ _ (loadIfAlive _ >>= _) _ _ _
    refine wpAny_bind (zs_alive fun o => ?_)
    cases o with
    | none => exact wpAny_pure h1
    | some o =>
      simp only [Bool.false_eq_true, Option.isNone_some, if_false]
      refine wpAny_bind (wpAny_field hz rfl (x := Value.bool f) rfl ?_)
      cases f with
      | true => exact (if_neg (show ¬ ((Value.bool true != Value.bool true) = true) from Bool.false_ne_true)).symm ▸ wpAny_pure (h0 s.heap hz (Heap.SameBut.refl _ _))
      | false => exact (if_pos (show (Value.bool false != Value.bool true) = true from rfl)).symm ▸ wpAny_bind (wpAny_setField_rec hz (by simp) fun g e b => wpAny_pure (h0 g e b))
theorem zs_draw {Q : Value → Shared → Prop} (M : ZMid h0 s.heap n ls i k x f vals p) (L : ZDraw h0 n ls i vals) (hk : k < ls.length)
    (q : ∀ v g, vals[k]? = some v → ZMid h0 g n ls i (k + 1) x f vals p → Q v { s with heap := g }) : wpAny (model prog w) A (Builtin.SmallTypes.nextOf (.ref (n + k))) Q E s := by
  have ek : ls[k]? = some ls[k] := List.getElem?_eq_getElem hk
  obtain ⟨lt, its, v, hl, hv, ev⟩ := L.2 k _ ek
  have hit := M.its k _ ek
  rw [if_neg (Nat.lt_irrefl k)] at hit
  refine wpAny_nextOf_list_item hit (hl.at fun o e => M.far _ _ (.inl lt) e) hv fun g hit' sb => q v g ev ⟨fun j l ej => ?_, sb.1.trans M.sz, fun c o hc e => ?_, ?_, ?_, ?_⟩
  · by_cases ne : j = k
    · subst ne
      rw [ek] at ej
      cases ej
      rw [if_pos (Nat.lt_succ_self _)]
      exact hit'
    · have := M.its j l ej
      rw [show (if j < k + 1 then i + 1 else i) = (if j < k then i + 1 else i) by split <;> split <;> omega]
      exact this.at fun o e => (sb.2 _ (by show n + j ≠ n + k; omega)).trans e
  · exact (sb.2 _ (by show c ≠ n + k; omega)).trans (M.far c o hc e)
  · exact (sb.2 _ (by show n + ls.length ≠ n + k; omega)).trans M.ti
  · exact (sb.2 _ (by show n + ls.length + 2 ≠ n + k; omega)).trans M.z
  · obtain ⟨us, e1, e2, e3⟩ := M.to
    exact ⟨us, e1, (sb.2 _ (by show n + ls.length + 1 ≠ n + k; omega)).trans e2, e3⟩
theorem zs_put {v : Value} {Q : Unit → Shared → Prop} (M : ZMid h0 s.heap n ls i (k + 1) x f vals k) (hv : vals[k]? = some v) (hk : k < ls.length) (hr : ls.length ≤ 1000)
    (q : ∀ g, ZMid h0 g n ls i (k + 1) x f vals (k + 1) → Q () { s with heap := g }) : wpAny (model prog w) A (updateSeq (n + ls.length + 1) (·.setIfInBounds k v)) Q E s := by
  obtain ⟨us, e1, e2, e3⟩ := M.to
  have sb : Heap.SameBut (n + ls.length + 1) s.heap (s.heap.update (n + ls.length + 1) (Obj.mapSeq (·.setIfInBounds k v))) := Heap.SameBut.update ..
  have b1 : us.toArray.size ≤ sizeLine := by rw [List.size_toArray, e1]; exact Nat.le_trans hr (by decide)
  refine wpAny_updateSeq e2 rfl (q _ ⟨fun j l ej => ?_, sb.1.trans M.sz, fun c o hc e => ?_, ?_, ?_, ⟨us.set k v, by rw [List.length_set, e1], ?_, ?_⟩⟩) b1 (by rw [Array.size_setIfInBounds]; exact Nat.le_succ_of_le b1)
  · have hj : j < ls.length := (List.getElem?_eq_some_iff.mp ej).1
    exact (M.its j l ej).at fun o e => (sb.2 _ (by show n + j ≠ n + ls.length + 1; omega)).trans e
  · exact (sb.2 _ (by show c ≠ n + ls.length + 1; omega)).trans (M.far c o hc e)
  · exact (sb.2 _ (by show n + ls.length ≠ n + ls.length + 1; omega)).trans M.ti
  · exact (sb.2 _ (by show n + ls.length + 2 ≠ n + ls.length + 1; omega)).trans M.z
  · show Heap.get? _ _ = _
    rw [Heap.get?_update_self _ e2 rfl]
    simp [Obj.mapSeq]
  · have l1 : k < us.length := by omega
    have hv2 : vals.take (k + 1) = vals.take k ++ [v] := by rw [List.take_add_one, hv]; rfl
    rw [hv2, ← e3, List.take_add_one, List.getElem?_set_self l1, List.take_set_of_le (Nat.le_refl k)]
    rfl
end
end L2
namespace L2
open PySem PySem.Spec PyProof.Rows
theorem refsFrom_len (n r : Nat) : (refsFrom n r).length = r := by simp [refsFrom]
theorem refsFrom_at {n r k : Nat} (hk : k < r) : (refsFrom n r)[k]? = some (.ref (n + k)) := by simp [refsFrom, List.getElem?_range', hk]
theorem refsFrom_drop {n r k : Nat} (hk : k < r) : (refsFrom n r).drop k = .ref (n + k) :: (refsFrom n r).drop (k + 1) := by
  have e := List.drop_eq_getElem_cons (l := refsFrom n r) (i := k) (by rw [refsFrom_len]; exact hk)
  rw [e]
  congr 1
  have := refsFrom_at (n := n) hk
  exact Option.some.inj ((List.getElem?_eq_getElem _).symm.trans this)
theorem refsFrom_idx {n r k : Nat} (hk : k < r) : (refsFrom n r).zipIdx.drop k = (.ref (n + k), k) :: (refsFrom n r).zipIdx.drop (k + 1) := by
  have hl : k < (refsFrom n r).zipIdx.length := by rw [List.length_zipIdx, refsFrom_len]; exact hk
  rw [List.drop_eq_getElem_cons hl]
  congr 1
  have := refsFrom_at (n := n) hk
  rw [List.getElem_zipIdx]
  rw [List.getElem?_eq_getElem (by rw [refsFrom_len]; exact hk)] at this
  rw [Option.some.inj this, Nat.zero_add]
/-- where a zip stands between two turns -/
structure ZSt (h : Heap) (n : Nat) (ls : List Addr) (i : Nat) : Prop where
  its : ∀ (j : Nat) (l : Addr), ls[j]? = some l → h.IsListIter (n + j) l i
  ti : TupAt h (n + ls.length) (refsFrom n ls.length)
  z : ∃ x f, (x = .none ∨ ∃ T : Nat, x = rawInt T) ∧ ZRec h (n + ls.length + 2) (n + ls.length) (n + ls.length + 1) x f
  to : ∃ us : List Value, us.length = ls.length ∧ TupAt h (n + ls.length + 1) us
theorem ZMid.sb {h0 h h' : Heap} {n i k p : Nat} {ls : List Addr} {x y : Value} {f b : Bool} {vals : List Value} (M : ZMid h0 h n ls i k x f vals p) (e : Heap.SameBut (n + ls.length + 2) h h') (z : ZRec h' (n + ls.length + 2) (n + ls.length) (n + ls.length + 1) y b) : ZMid h0 h' n ls i k y b vals p := by
  obtain ⟨us, e1, e2, e3⟩ := M.to
  refine ⟨fun j l ej => ?_, e.1.trans M.sz, fun c o hc q => (e.2 _ (by show c ≠ n + ls.length + 2; omega)).trans (M.far c o hc q), (e.2 _ (by show n + ls.length ≠ n + ls.length + 2; omega)).trans M.ti, z, us, e1, (e.2 _ (by show n + ls.length + 1 ≠ n + ls.length + 2; omega)).trans e2, e3⟩
  have hj : j < ls.length := (List.getElem?_eq_some_iff.mp ej).1
  exact (M.its j l ej).at fun o q => (e.2 _ (by show n + j ≠ n + ls.length + 2; omega)).trans q
theorem ZSt.mid {h : Heap} {n i : Nat} {ls : List Addr} (S : ZSt h n ls i) (vals : List Value) : ∃ x f, (x = .none ∨ ∃ T : Nat, x = rawInt T) ∧ ZMid h h n ls i 0 x f vals 0 := by
  obtain ⟨x, f, ex, z⟩ := S.z
  obtain ⟨us, e1, e2⟩ := S.to
  exact ⟨x, f, ex, fun j l ej => by rw [if_neg (Nat.not_lt_zero j)]; exact S.its j l ej, rfl, fun _ _ _ q => q, S.ti, z, us, e1, e2, rfl⟩
theorem ZMid.fin {h0 h h' : Heap} {n i p : Nat} {ls : List Addr} {x y : Value} {f b : Bool} {vals : List Value} (M : ZMid h0 h n ls i ls.length x f vals p) (up : ∀ c o, c ≠ n + ls.length + 2 → h.get? c = some o → h'.get? c = some o) (ey : y = .none ∨ ∃ T : Nat, y = rawInt T)
    (z : ZRec h' (n + ls.length + 2) (n + ls.length) (n + ls.length + 1) y b) : ZSt h' n ls (i + 1) := by
  obtain ⟨us, e1, e2, _⟩ := M.to
  refine ⟨fun j l ej => ?_, up _ _ (by show n + ls.length ≠ n + ls.length + 2; omega) M.ti, ⟨y, b, ey, z⟩, us, e1, up _ _ (by show n + ls.length + 1 ≠ n + ls.length + 2; omega) e2⟩
  have hj : j < ls.length := (List.getElem?_eq_some_iff.mp ej).1
  have := M.its j l ej
  rw [if_pos hj] at this
  exact this.at fun o => up _ o (by show n + j ≠ n + ls.length + 2; omega)
theorem ZSt.keep {h h' : Heap} {n i : Nat} {ls : List Addr} (S : ZSt h n ls i) (k : ∀ b o, n ≤ b → b ≤ n + ls.length + 2 → h.get? b = some o → h'.get? b = some o) : ZSt h' n ls i := by
  obtain ⟨x, f, ex, z⟩ := S.z
  obtain ⟨us, e1, e2⟩ := S.to
  refine ⟨fun j l ej => ?_, k _ _ (by show n ≤ n + ls.length; omega) (by show n + ls.length ≤ n + ls.length + 2; omega) S.ti, ⟨x, f, ex, k _ _ (by show n ≤ n + ls.length + 2; omega) (Nat.le_refl _) z⟩, us, e1, k _ _ (by show n ≤ n + ls.length + 1; omega) (by show n + ls.length + 1 ≤ n + ls.length + 2; omega) e2⟩
  have hj : j < ls.length := (List.getElem?_eq_some_iff.mp ej).1
  exact (S.its j l ej).at fun o => k _ o (by show n ≤ n + j; omega) (by show n + j ≤ n + ls.length + 2; omega)
section
variable {prog : Program} {w : World} {A : Around} {E : Value → Shared → Prop} {s : Shared} {n i : Nat} {ls : List Addr} {vals : List Value}
theorem zs_item {Q : Value → Shared → Prop} (S : ZSt s.heap n ls i) (L : ZDraw s.heap n ls i vals) (h0 : ls ≠ []) (hr : ls.length ≤ 1000)
    (q : ∀ h', ZSt h' n ls (i + 1) → TupAt h' s.heap.objs.size vals → (∀ c o, c < n ∨ n + ls.length + 2 < c → s.heap.get? c = some o → h'.get? c = some o) → Q (.ref s.heap.objs.size) { s with heap := h' }) :
    wpAny (model prog w) A (Builtin.«zip.__next__» ⟨[.ref (n + ls.length + 2)], []⟩) (fun fin s' => ∃ v, fin = .done (.ret v) ∧ Q v s') E s := by
  obtain ⟨hp, g, d, tk0, os⟩ := s
  obtain ⟨x, f, hx, M⟩ := S.mid vals
  have zl : n + ls.length + 2 < hp.objs.size := Heap.lt_size M.z
  have vsz : vals.length ≤ sizeLine := by rw [L.1]; exact Nat.le_trans hr (by decide)
  show wpAny _ _ (field (.ref (n + ls.length + 2)) 2 >>= _) _ _ _
  refine wpAny_bind (wpAny_field M.z rfl (x := .bool false) rfl ?_)
  show wpAny _ _ (field (.ref (n + ls.length + 2)) 3 >>= _) _ _ _
  refine wpAny_bind (wpAny_field M.z rfl (x := .ref (n + ls.length)) rfl ?_)
  refine wpAny_bind (wpAny_seqItems M.ti rfl ?_)
  have ne : (refsFrom n ls.length).toArray.isEmpty = false := by
    cases ls with
    | nil => exact absurd rfl h0
    | cons a t => simp [refsFrom, List.range'_succ]
  dsimp only
  rw [ne]
  show wpAny _ _ (Builtin.SmallTypes.ownedTupleIsFree (.ref _) >>= _) _ _ _
  refine wpAny_bind (zs_free M.z hx ?_ fun g1 z1 b1 => ?_)
  · simp only [if_true]
    refine wpAny_bind (wpAny_rule ?_)
    refine wpAny_bind (wpAny_field M.z rfl (x := .ref (n + ls.length + 1)) rfl ?_)
    dsimp only
    refine wpAny_bind (wpAny_setField_rec M.z (by simp) fun g1 z1 b1 => ?_)
    have M1 : ZMid hp g1 n ls i 0 .ellipsis f vals 0 := M.sb b1 z1
    refine wpAny_bind (wpAny_forIn_list _ (fun rest b s' => ∃ k g', b = (none, ()) ∧ k ≤ ls.length ∧ rest = (refsFrom n ls.length).zipIdx.drop k ∧ s' = ⟨g', g, d, tk0, os⟩ ∧ ZMid hp g' n ls i k .ellipsis f vals k) _ ?_ ?_ _ _ ⟨0, g1, rfl, Nat.zero_le _, rfl, rfl, M1⟩)
    · rintro ⟨it, k'⟩ rest b s' ⟨k, g', rfl, hk, er, rfl, M2⟩
      have hk2 : k < ls.length := by
        rcases Nat.lt_or_ge k ls.length with q | q
        · exact q
        · rw [List.drop_eq_nil_of_le (by rw [List.length_zipIdx, refsFrom_len]; exact q)] at er
          cases er
      rw [refsFrom_idx hk2] at er
      cases er
      dsimp only
      refine wpAny_bind (wpAny_onRaise ?_)
      show wpAny _ _ (Builtin.SmallTypes.nextOf (.ref (n + k')) >>= _) _ _ _
      refine wpAny_bind (zs_draw (s := ⟨g', g, d, tk0, os⟩) M2 L hk2 fun v g2 ev M3 => wpAny_pure ?_)
      dsimp only
      obtain ⟨us, e1, e2, e3⟩ := M3.to
      refine wpAny_bind (wpAny_seqItems (s := ⟨g2, g, d, tk0, os⟩) e2 rfl ?_)
      dsimp only
      refine wpAny_bind (zs_put (s := ⟨g2, g, d, tk0, os⟩) M3 ev hk2 hr fun g3 M4 => ?_)
      exact wpAny_bind (wpAny_letGo (wpAny_pure ⟨k' + 1, g3, rfl, hk2, rfl, rfl, M4⟩))
    · rintro b s' ⟨k, g', rfl, hk, er, rfl, M2⟩
      have ek : k = ls.length := by
        rcases Nat.lt_or_ge k ls.length with q | q
        · rw [refsFrom_idx q] at er
          cases er
        · omega
      subst ek
      obtain ⟨us, e1, e2, e3⟩ := M2.to
      have eu : us = vals := by
        rw [← List.take_length (l := us), e1, e3, ← L.1, List.take_length]
      subst eu
      dsimp only
      refine wpAny_bind (wpAny_seqItems (s := ⟨g', g, d, tk0, os⟩) e2 rfl ?_)
      dsimp only
      refine wpAny_bind (wpAny_newTuple ?_ vsz)
      have sz : g'.objs.size = hp.objs.size := M2.sz
      unfold Builtin.SmallTypes.ownedTupleHandOut
      have z2 : ZRec (g'.push { cls := .type "tuple", data := .seq us.toArray }) (n + ls.length + 2) (n + ls.length) (n + ls.length + 1) .ellipsis f := Heap.get?_push_of_some _ M2.z
      refine wpAny_bind (wpAny_bind (wpAny_setField_rec z2 (by simp) fun g3 z3 b3 => ?_))
      refine wpAny_setField_rec z3 (by simp) fun g4 z4 b4 => wpAny_pure ⟨_, rfl, ?_⟩
      have up : ∀ c o, c ≠ n + ls.length + 2 → g'.get? c = some o → g4.get? c = some o := fun c o hc e => b4.extBut _ _ hc (b3.extBut _ _ hc (Heap.get?_push_of_some _ e))
      have new : TupAt g4 hp.objs.size us := (b4.2 _ (Nat.ne_of_gt zl)).trans ((b3.2 _ (Nat.ne_of_gt zl)).trans (by rw [← sz]; exact Heap.get?_push_size _ rfl))
      show Q (.ref g'.objs.size) _
      rw [sz] at z4 ⊢
      exact q g4 (M2.fin up (.inr ⟨_, rfl⟩) z4) new fun c o hc e => up c o (by show c ≠ n + ls.length + 2; omega) (M2.far c o hc e)
  · simp only [Bool.false_eq_true, if_false]
    have M1 : ZMid hp g1 n ls i 0 x true vals 0 := M.sb b1 z1
    rw [← Array.forIn_toList]
    refine wpAny_bind (wpAny_forIn_list _ (fun rest b s' => ∃ k g', b = (none, (vals.take k).toArray) ∧ k ≤ ls.length ∧ rest = (refsFrom n ls.length).drop k ∧ s' = ⟨g', g, d, tk0, os⟩ ∧ ZMid hp g' n ls i k x true vals 0) _ ?_ ?_ _ _ ⟨0, g1, rfl, Nat.zero_le _, rfl, rfl, M1⟩)
    · rintro it rest b s' ⟨k, g', rfl, hk, er, rfl, M2⟩
      have hk2 : k < ls.length := by
        rcases Nat.lt_or_ge k ls.length with q | q
        · exact q
        · rw [List.drop_eq_nil_of_le (by rw [refsFrom_len]; exact q)] at er
          cases er
      rw [refsFrom_drop hk2] at er
      cases er
      dsimp only
      refine wpAny_bind (wpAny_holding ?_)
      show wpAny _ _ (Builtin.SmallTypes.nextOf (.ref (n + k)) >>= _) _ _ _
      refine wpAny_bind (zs_draw (s := ⟨g', g, d, tk0, os⟩) M2 L hk2 fun v g2 ev M3 => wpAny_pure ?_)
      refine wpAny_pure ⟨k + 1, g2, ?_, hk2, rfl, rfl, M3⟩
      rw [List.take_add_one, ev]
      simp
    · rintro b s' ⟨k, g', rfl, hk, er, rfl, M2⟩
      have ek : k = ls.length := by
        rcases Nat.lt_or_ge k ls.length with q | q
        · rw [refsFrom_drop q] at er
          cases er
        · omega
      subst ek
      dsimp only
      rw [← L.1, List.take_length]
      refine wpAny_bind (wpAny_newTuple ?_ vsz)
      have sz : g'.objs.size = hp.objs.size := M2.sz
      refine wpAny_pure ⟨_, rfl, ?_⟩
      show Q (.ref g'.objs.size) _
      have up : ∀ c o, g'.get? c = some o → (g'.push { cls := .type "tuple", data := .seq vals.toArray }).get? c = some o := fun c o e => Heap.get?_push_of_some _ e
      have new : TupAt (g'.push { cls := .type "tuple", data := .seq vals.toArray }) g'.objs.size vals := Heap.get?_push_size _ rfl
      rw [sz] at new ⊢
      exact q _ (M2.fin (fun c o _ e => up c o e) hx (up _ _ M2.z)) new fun c o hc e => up c o (M2.far c o hc e)
theorem zs_end {Q : Fin → Shared → Prop} (hh : A.handled = none) (S : ZSt s.heap n ls i) (L : ls = [] ∨ ∃ l its, ls[0]? = some l ∧ l < n ∧ s.heap.IsList l its ∧ its[i]? = none)
    (q : ∀ h' e, (∀ c o, c < n ∨ n + ls.length + 2 < c → s.heap.get? c = some o → h'.get? c = some o) → (∃ o, h'.get? e = some o ∧ o.cls = .type "StopIteration") → E (.ref e) { s with heap := h' }) :
    wpAny (model prog w) A (Builtin.«zip.__next__» ⟨[.ref (n + ls.length + 2)], []⟩) Q E s := by
  obtain ⟨hp, g, d, tk0, os⟩ := s
  obtain ⟨x, f, hx, M⟩ := S.mid []
  have zl : n + ls.length + 2 < hp.objs.size := Heap.lt_size M.z
  show wpAny _ _ (field (.ref (n + ls.length + 2)) 2 >>= _) _ _ _
  refine wpAny_bind (wpAny_field M.z rfl (x := .bool false) rfl ?_)
  show wpAny _ _ (field (.ref (n + ls.length + 2)) 3 >>= _) _ _ _
  refine wpAny_bind (wpAny_field M.z rfl (x := .ref (n + ls.length)) rfl ?_)
  refine wpAny_bind (wpAny_seqItems M.ti rfl ?_)
  dsimp only
  rcases L with rfl | ⟨l, its, el, lt, hl, hend⟩
  · simp only [refsFrom, List.length_nil, List.range'_zero, List.map_nil, List.isEmpty_toArray, List.isEmpty_nil, if_true]
    refine wpAny_bind (wpAny_rule ?_)
    refine wpAny_bind ?_
    show wpAny _ _ (newExc (Value.type "StopIteration") [] >>= _) _ _ _
    refine wpAny_bind ?_
    simp only [newExc, newTuple]
    refine wpAny_bind (wpAny_newObj_type (wpAny_bind (m := firstArgMember _ _) (wpAny_of_eq (a := Value.none) (by first | rfl | (simp only [firstArgMember]; rfl)) (wpAny_newObj_type ?_ (by size_fits)))) (by size_fits))
    simp only [raiseNew]
    refine wpAny_bind (wpAny_handled ?_)
    first | rw [hh] | rw [show A.in1.handled = none from hh]
    exact wpAny_bind (wpAny_pure (wpAny_throw (q _ _ (fun c o _ e => Heap.get?_push_of_some _ (Heap.get?_push_of_some _ e)) ⟨_, Heap.get?_push_size _ rfl, rfl⟩)))
  · have hlen : 0 < ls.length := (List.getElem?_eq_some_iff.mp el).1
    have cons := refsFrom_drop (n := n) hlen
    have cons2 := refsFrom_idx (n := n) hlen
    rw [List.drop_zero] at cons cons2
    have ne : (refsFrom n ls.length).toArray.isEmpty = false := by rw [cons]; rfl
    rw [ne]
    show wpAny _ _ (Builtin.SmallTypes.ownedTupleIsFree (.ref _) >>= _) _ _ _
    refine wpAny_bind (zs_free M.z hx ?_ fun g1 z1 b1 => ?_)
    · simp only [if_true]
      refine wpAny_bind (wpAny_rule ?_)
      refine wpAny_bind (wpAny_field M.z rfl (x := .ref (n + ls.length + 1)) rfl ?_)
      dsimp only
      refine wpAny_bind (wpAny_setField_rec M.z (by simp) fun g1 z1 b1 => ?_)
      rw [cons2, List.forIn_cons]
      refine wpAny_bind (wpAny_bind (wpAny_bind (wpAny_onRaise ?_)))
      show wpAny _ _ (Builtin.SmallTypes.nextOf (.ref (n + 0)) >>= _) _ _ _
      refine wpAny_bind (wpAny_nextOf_list_end (s := ⟨g1, g, d, tk0, os⟩) hh ((S.its 0 l el).at fun o e => (b1.2 _ (by show n + 0 ≠ n + ls.length + 2; omega)).trans e) (hl.at fun o e => (b1.2 _ (by show l ≠ n + ls.length + 2; omega)).trans e) hend fun g2 e k2 he => ?_)
      obtain ⟨oe, h1, h2⟩ := he
      have zz : ZRec g2 (n + ls.length + 2) (n + ls.length) (n + ls.length + 1) .ellipsis f := k2 _ _ (by show n + ls.length + 2 ≠ n + 0; omega) z1
      have nz : e ≠ n + ls.length + 2 := fun q => by rw [q, zz] at h1; cases h1; simp at h2
      refine wpAny_setField_rec (s := ⟨g2, g, d, tk0, os⟩) zz (by simp) fun g3 z3 b3 => q g3 e (fun c o hc q => ?_) ⟨oe, b3.extBut _ _ nz h1, h2⟩
      have c1 : c ≠ n + ls.length + 2 := by show c ≠ n + ls.length + 2; omega
      exact b3.extBut _ _ c1 (k2 _ _ (by show c ≠ n + 0; omega) (b1.extBut _ _ c1 q))
    · simp only [Bool.false_eq_true, if_false]
      rw [← Array.forIn_toList, show (refsFrom n ls.length).toArray.toList = refsFrom n ls.length from rfl, cons, List.forIn_cons]
      refine wpAny_bind (wpAny_bind (wpAny_bind (wpAny_holding ?_)))
      show wpAny _ _ (Builtin.SmallTypes.nextOf (.ref (n + 0)) >>= _) _ _ _
      refine wpAny_bind (wpAny_nextOf_list_end (s := ⟨g1, g, d, tk0, os⟩) hh ((S.its 0 l el).at fun o e => (b1.2 _ (by show n + 0 ≠ n + ls.length + 2; omega)).trans e) (hl.at fun o e => (b1.2 _ (by show l ≠ n + ls.length + 2; omega)).trans e) hend fun g2 e k2 he => q g2 e (fun c o hc q => ?_) he)
      exact k2 _ _ (by show c ≠ n + 0; omega) (b1.extBut _ _ (by show c ≠ n + ls.length + 2; omega) q)
theorem zs_next_item {Q : Option Value → Shared → Prop} (S : ZSt s.heap n ls i) (L : ZDraw s.heap n ls i vals) (h0 : ls ≠ []) (hr : ls.length ≤ 1000)
    (q : ∀ h', ZSt h' n ls (i + 1) → TupAt h' s.heap.objs.size vals → (∀ c o, c < n ∨ n + ls.length + 2 < c → s.heap.get? c = some o → h'.get? c = some o) → Q (some (.ref s.heap.objs.size)) { s with heap := h' }) :
    wpAny (model prog w) A (pyNext (.ref (n + ls.length + 2))) Q E s := by
  obtain ⟨x, f, _, z⟩ := S.z
  have T : s.TypeIs (.ref (n + ls.length + 2)) "zip" := ⟨_, z, rfl⟩
  unfold pyNext
  exact wpAny_bind (wpAny_attempt (wpAny_callSpecial?_slot (name := Str.ofString "__next__") T F.slot_zip_next (wpAny_call_entry F.slot_zip_next T F.entry_zip_next (zs_item S L h0 hr fun h' a b c => wpAny_pure (q h' a b c)) (F.args_zip_next_1 _))))
theorem zs_next_end {Q : Option Value → Shared → Prop} (hh : A.in1.handled = none) (S : ZSt s.heap n ls i) (L : ls = [] ∨ ∃ l its, ls[0]? = some l ∧ l < n ∧ s.heap.IsList l its ∧ its[i]? = none)
    (q : ∀ h', (∀ c o, c < n ∨ n + ls.length + 2 < c → s.heap.get? c = some o → h'.get? c = some o) → Q none { s with heap := h' }) : wpAny (model prog w) A (pyNext (.ref (n + ls.length + 2))) Q E s := by
  obtain ⟨x, f, _, z⟩ := S.z
  have T : s.TypeIs (.ref (n + ls.length + 2)) "zip" := ⟨_, z, rfl⟩
  unfold pyNext
  refine wpAny_bind (wpAny_attempt (wpAny_callSpecial?_slot (name := Str.ofString "__next__") T F.slot_zip_next (wpAny_call_entry F.slot_zip_next T F.entry_zip_next (zs_end hh S L fun h' e hk he => ?_) (F.args_zip_next_1 _))))
  obtain ⟨o, ho, hc⟩ := he
  exact wpAny_bind (wpAny_isInstance (T := "StopIteration") (b := true) ⟨o, ho, hc⟩ isSubtype_stop (wpAny_pure (q _ hk)))
end
end L2
namespace L2
open PySem PySem.Spec PyProof.Rows
/-- the heap where a zip over the lists ls has begun -/
def zsIts (h : Heap) : List Addr → Heap
  | [] => h
  | l :: ls => zsIts (h.push { cls := .type "list_iterator", data := .fields #[.ref l, .int 0 0] }) ls
theorem zsIts_size : ∀ (ls : List Addr) (h : Heap), (zsIts h ls).objs.size = h.objs.size + ls.length
  | [], h => rfl
  | l :: ls, h => by
    rw [zsIts, zsIts_size ls, Heap.size_push, List.length_cons]
    omega
theorem zsIts_keep : ∀ (ls : List Addr) (h : Heap) (c : Addr) (o : Obj), h.get? c = some o → (zsIts h ls).get? c = some o
  | [], _, _, _, e => e
  | l :: ls, h, c, o, e => zsIts_keep ls _ c o (Heap.get?_push_of_some _ e)
theorem zsIts_at : ∀ (ls : List Addr) (h : Heap) (j : Nat) (l : Addr), ls[j]? = some l → (zsIts h ls).IsListIter (h.objs.size + j) l 0
  | [], _, j, l, e => by cases e
  | a :: ls, h, 0, l, e => by
    cases e
    exact ⟨_, zsIts_keep ls _ _ _ (Heap.get?_push_size _ rfl), rfl, rfl⟩
  | a :: ls, h, j + 1, l, e => by
    have := zsIts_at ls (h.push { cls := .type "list_iterator", data := .fields #[.ref a, .int 0 0] }) j l e
    rw [Heap.size_push] at this
    rw [show h.objs.size + (j + 1) = h.objs.size + 1 + j by omega]
    exact this
abbrev zsT (h : Heap) (ls : List Addr) : Heap := (zsIts h ls).push { cls := .type "tuple", data := .seq (refsFrom h.objs.size ls.length).toArray }
abbrev zsO (h : Heap) (ls : List Addr) : Heap := (zsT h ls).push { cls := .type "tuple", data := .seq (((refsFrom h.objs.size ls.length).map fun _ => Value.none).toArray) }
abbrev zsZ (h : Heap) (ls : List Addr) : Heap := (zsO h ls).push { cls := .type "zip", data := .fields #[.none, .bool false, .bool false, .ref (zsIts h ls).objs.size, .ref (zsT h ls).objs.size] }
section
variable {s : Shared} {E : Value → Shared → Prop} {A : Around} {prog : Program} {w : World}
theorem zs_iters (ls : List Addr) (hl : ∀ l ∈ ls, ∃ its, s.heap.IsList l its) {Q : List Value → Shared → Prop} (q : Q (refsFrom s.heap.objs.size ls.length) { s with heap := zsIts s.heap ls }) :
    wpAny (model prog w) A (Builtin.SmallTypes.iterAll (ls.map Value.ref)) Q E s := by
  obtain ⟨hp, g, d, tk0, os⟩ := s
  unfold Builtin.SmallTypes.iterAll
  dsimp only
  refine wpAny_bind (wpAny_forIn_list _ (fun rest b s' => ∃ k g', b = (refsFrom hp.objs.size k).toArray ∧ rest = (ls.drop k).map Value.ref ∧ k ≤ ls.length ∧ s' = ⟨g', g, d, tk0, os⟩ ∧ g' = zsIts hp (ls.take k)) _ ?_ ?_ _ _ ⟨0, hp, rfl, rfl, Nat.zero_le _, rfl, rfl⟩)
  · rintro it rest b s' ⟨k, g', rfl, er, hk, rfl, rfl⟩
    have hk2 : k < ls.length := by
      rcases Nat.lt_or_ge k ls.length with q | q
      · exact q
      · rw [List.drop_eq_nil_of_le q] at er
        cases er
    rw [List.drop_eq_getElem_cons hk2, List.map_cons] at er
    cases er
    obtain ⟨its, hi⟩ := hl _ (List.getElem_mem hk2)
    have hi2 : (zsIts hp (ls.take k)).IsList ls[k] its := hi.at fun o e => zsIts_keep _ _ _ _ e
    refine wpAny_bind (wpAny_holding (wpAny_pyIter_list (s := ⟨zsIts hp (ls.take k), g, d, tk0, os⟩) hi2 (wpAny_pure ⟨k + 1, _, ?_, rfl, hk2, rfl, ?_⟩)))
    · show (refsFrom hp.objs.size k).toArray.push (.ref (zsIts hp (ls.take k)).objs.size) = _
      rw [zsIts_size, List.length_take, Nat.min_eq_left hk]
      simp [refsFrom, List.range'_concat]
    · show _ = zsIts hp (ls.take (k + 1))
      rw [List.take_add_one, List.getElem?_eq_getElem hk2]
      have app : ∀ (xs ys : List Addr) (h : Heap), zsIts h (xs ++ ys) = zsIts (zsIts h xs) ys := fun xs => by
        induction xs with
        | nil => intro ys h; rfl
        | cons x xs ih => intro ys h; exact ih ys _
      rw [app]
      rfl
  · rintro b s' ⟨k, g', rfl, er, hk, rfl, rfl⟩
    have ek : k = ls.length := by
      rcases Nat.lt_or_ge k ls.length with q | q
      · rw [List.drop_eq_getElem_cons q] at er
        cases er
      · omega
    subst ek
    rw [List.take_length]
    exact wpAny_pure q
end
end L2
namespace L2
open PySem PySem.Spec PyProof.Rows
theorem meets_zs (ls : List Addr) : Meets (Builtin.«zip.__new__» ⟨.type "zip" :: ls.map Value.ref, []⟩) (fun _ R s => ((∀ l ∈ ls, ∃ its, s.heap.IsList l its) ∧ ls.length ≤ 1000) ∧ R (.ok (.ret (.ref (zsO s.heap ls).objs.size))) { s with heap := zsZ s.heap ls }) := by
  refine .of_wp fun prog w A R s h => ?_
  obtain ⟨hp, g, d, tk, os⟩ := s
  obtain ⟨⟨hl, hr⟩, h⟩ := h
  have hsub := sub_zip
  have b1 : (refsFrom hp.objs.size ls.length).length ≤ sizeLine := by rw [refsFrom_len]; exact Nat.le_trans hr (by decide)
  have i1 : ∀ {A' : Around} {E : Value → Shared → Prop} {Q : List Value → Shared → Prop}, Q (refsFrom hp.objs.size ls.length) ⟨zsIts hp ls, g, d, tk, os⟩ → wpAny (model prog w) A' (Builtin.SmallTypes.iterAll (ls.map Value.ref)) Q E ⟨hp, g, d, tk, os⟩ := fun q => zs_iters (s := ⟨hp, g, d, tk, os⟩) ls hl q
  have t1 : ∀ {A' : Around} {E Q : Value → Shared → Prop}, Q (.ref (zsIts hp ls).objs.size) ⟨zsT hp ls, g, d, tk, os⟩ → wpAny (model prog w) A' (newTuple (refsFrom hp.objs.size ls.length)) Q E ⟨zsIts hp ls, g, d, tk, os⟩ := fun q => wpAny_newTuple q b1
  have t2 : ∀ {A' : Around} {E Q : Value → Shared → Prop}, Q (.ref (zsT hp ls).objs.size) ⟨zsO hp ls, g, d, tk, os⟩ → wpAny (model prog w) A' (newTuple ((refsFrom hp.objs.size ls.length).map fun _ => Value.none)) Q E ⟨zsT hp ls, g, d, tk, os⟩ := fun q => wpAny_newTuple q (by rw [List.length_map]; exact b1)
  wp_walk using i1, t1, t2
  exact ⟨_, rfl, h⟩
section
variable {s : Shared} {E : Value → Shared → Prop} {A : Around} {prog : Program} {w : World}
theorem zs_begins (ls : List Addr) (hl : ∀ l ∈ ls, ∃ its, s.heap.IsList l its) (hr : ls.length ≤ 1000) {Q : Value → Shared → Prop}
    (q : ∀ g, ZSt g s.heap.objs.size ls 0 → (∀ c o, s.heap.get? c = some o → g.get? c = some o) → Q (.ref (s.heap.objs.size + ls.length + 2)) { s with heap := g }) : wpAny (model prog w) A (call (.type "zip") (ls.map Value.ref)) Q E s := by
  refine callType_new F.called_zip (by decide) (zs_typeCall _) (zs_newCall _) (fun obj => zs_init obj _) F.entry_zip_new (meets_zs ls) ⟨⟨hl, hr⟩, ?_⟩
  have up : ∀ (g : Heap) (ob : Obj) c o', g.get? c = some o' → (g.push ob).get? c = some o' := fun g ob c o' e => Heap.get?_push_of_some _ e
  have n1 : (zsIts s.heap ls).objs.size = s.heap.objs.size + ls.length := zsIts_size ..
  have n2 : (zsT s.heap ls).objs.size = s.heap.objs.size + ls.length + 1 := (Heap.size_push ..).trans (by rw [n1])
  have n3 : (zsO s.heap ls).objs.size = s.heap.objs.size + ls.length + 2 := (Heap.size_push ..).trans (by rw [n2])
  have c3 : (zsZ s.heap ls).get? (zsO s.heap ls).objs.size = some { cls := .type "zip", data := .fields #[.none, .bool false, .bool false, .ref (zsIts s.heap ls).objs.size, .ref (zsT s.heap ls).objs.size] } := Heap.get?_push_size _ rfl
  have c2 : TupAt (zsZ s.heap ls) (zsT s.heap ls).objs.size ((refsFrom s.heap.objs.size ls.length).map fun _ => Value.none) := up _ _ _ _ (Heap.get?_push_size _ rfl)
  have c1 : TupAt (zsZ s.heap ls) (zsIts s.heap ls).objs.size (refsFrom s.heap.objs.size ls.length) := up _ _ _ _ (up _ _ _ _ (Heap.get?_push_size _ rfl))
  rw [n1, n2, n3] at c3
  rw [n2] at c2
  rw [n1] at c1
  show _ ∧ _
  rw [n3]
  refine ⟨⟨_, c3, rfl⟩, q _ ⟨fun j l e => ?_, c1, ⟨.none, false, .inl rfl, c3⟩, _, by rw [List.length_map, refsFrom_len], c2⟩ fun c o e => ?_⟩
  · exact (zsIts_at ls s.heap j l e).at fun o e => up _ _ _ _ (up _ _ _ _ (up _ _ _ _ e))
  · exact up _ _ _ _ (up _ _ _ _ (up _ _ _ _ (zsIts_keep _ _ _ _ e)))
end
/-- the columns of rows that stand at ls, c places each -/
def ItzS (K : PySem.W.Frag) (ls : List (Addr × List V)) (c : Nat) : It where
  go i H := (i < c ∧ ls ≠ []) ∧ ∀ p ∈ ls, SqL K H p.1 p.2 ∧ p.2.length = c
  yld i H v H' := ∃ T, (v = .ref T ∧ H T = none) ∧ H' = upd H T (.tup (ls.map fun p => p.2.getD i .non))
  stop i H := (ls = [] ∨ i = c) ∧ ∀ p ∈ ls, SqL K H p.1 p.2 ∧ p.2.length = c
theorem zs_self {prog : Program} {w : World} {A : Around} {E : Value → Shared → Prop} {s : Shared} {n i : Nat} {ls : List Addr} {Q : Value → Shared → Prop} (S : ZSt s.heap n ls i) (h : Q (.ref (n + ls.length + 2)) s) : wpAny (model prog w) A (pyIter (.ref (n + ls.length + 2))) Q E s := by
  obtain ⟨x, f, _, z⟩ := S.z
  have T : s.TypeIs (.ref (n + ls.length + 2)) "zip" := ⟨_, z, rfl⟩
  exact wpAny_pyIter_slot T F.slot_zip_iter (wpAny_call_entry F.slot_zip_iter T F.entry_zip_iter (show wpAny _ _ (ret (.ref (n + ls.length + 2))) _ _ s from wpAny_pure ⟨_, rfl, "zip", _, T, F.slot_zip_next.lookup, h⟩) (F.args_zip_iter_1 _))
theorem vals_pick : ∀ (ls : List (Addr × List V)) (h : Heap) (n c i : Nat), i < c → (∀ p ∈ ls, p.1 < n) → (∀ p ∈ ls, ∃ its, h.IsList p.1 its ∧ Vals p.2 its.toList ∧ its.size = c) → ∃ vals, Vals (ls.map fun p => p.2.getD i .non) vals ∧ ZDraw h n (ls.map Prod.fst) i vals
  | [], h, n, c, i, _, _, _ => ⟨[], .nil, rfl, fun j l e => by cases e⟩
  | p :: t, h, n, c, i, hi, lt, R => by
    obtain ⟨vs, r, L⟩ := vals_pick t h n c i hi (fun q hq => lt q (List.mem_cons_of_mem _ hq)) (fun q hq => R q (List.mem_cons_of_mem _ hq))
    obtain ⟨its, h1, rv, h2⟩ := R p (List.mem_cons_self ..)
    have l1 : p.2.length = c := by rw [rv.length, Array.length_toList, h2]
    have e1 : p.2[i]? = some (p.2.getD i .non) := by rw [List.getD_eq_getElem?_getD, List.getElem?_eq_getElem (by omega)]; rfl
    obtain ⟨u, eu, ru⟩ := rv.get e1
    refine ⟨u :: vs, .cons ru r, by rw [List.length_cons, L.1]; rfl, fun j l e => ?_⟩
    cases j with
    | zero =>
      cases e
      exact ⟨lt p (List.mem_cons_self ..), its, u, h1, by rw [← Array.getElem?_toList]; exact eu, rfl⟩
    | succ j => exact L.2 j l e
theorem turn_zs {P : Program} {w : World} {K : PySem.W.Frag} {nm : Str} {tpos : Pos} {n c : Nat} {ls : List (Addr × List V)} (lt : ∀ p ∈ ls, p.1 < n) (hr : ls.length ≤ 1000) :
    Turn P w K (.Name nm tpos) (ItzS K ls c) (List.range' n (ls.length + 3)) (n + ls.length + 2) (fun i h => ZSt h n (ls.map Prod.fst) i) := by
  have len : (ls.map Prod.fst).length = ls.length := List.length_map ..
  have cell : ∀ i h, ZSt h n (ls.map Prod.fst) i → ∀ b ∈ List.range' n (ls.length + 3), ∃ o, h.get? b = some o ∧ ∀ v, o.data ≠ .cell v := fun i h S b hb => by
    rw [List.mem_range'_1] at hb
    obtain ⟨x, f, _, z⟩ := S.z
    obtain ⟨us, _, e2⟩ := S.to
    have ti := S.ti
    rw [len] at z e2 ti
    by_cases h1 : b < n + ls.length
    · have hj : b - n < ls.length := by omega
      obtain ⟨o, e, _, d⟩ := S.its (b - n) (ls[b - n]).1 (by rw [List.getElem?_map, List.getElem?_eq_getElem hj]; rfl)
      rw [show n + (b - n) = b by omega] at e
      exact ⟨o, e, fun v q => nomatch d.symm.trans q⟩
    · by_cases h2 : b = n + ls.length
      · exact ⟨_, h2 ▸ ti, fun v q => by cases q⟩
      · by_cases h3 : b = n + ls.length + 1
        · exact ⟨_, h3 ▸ e2, fun v q => by cases q⟩
        · have h4 : b = n + ls.length + 2 := by omega
          exact ⟨_, h4 ▸ z, fun v q => by cases q⟩
  have rows : ∀ {X : Cx} {pins : List (Addr × Obj)} {s : Shared} {σ : L2.St} {H : Hp}, Inv X pins σ H s → (∀ p ∈ ls, SqL X.K H p.1 p.2 ∧ p.2.length = c) → ∀ p ∈ ls, ∃ its, s.heap.IsList p.1 its ∧ Vals p.2 its.toList ∧ its.size = c := fun I hq p hp => by
    obtain ⟨its, rv, pl, _⟩ := I.list (hq p hp).1
    exact ⟨its.toArray, pl.isList, rv, by rw [List.size_toArray, ← rv.length, (hq p hp).2]⟩
  refine ⟨by rw [List.mem_range'_1]; omega, cell, fun i h h' S k => S.keep fun b o l1 l2 e => k b (by rw [List.mem_range'_1]; rw [len] at l2; omega) o e, fun X hP hw hK hc i pins s σ H E I hf st hg => ?_, fun X hP hw hK hc i pins s σ H E I hf st hg => ?_, fun A i s Q E st h => ?_⟩
  · subst hP hw hK
    obtain ⟨⟨hi, hne⟩, hq⟩ := hg
    obtain ⟨vals, rv, L⟩ := vals_pick ls s.heap n c i hi lt (rows I hq)
    have N : ls.map Prod.fst ≠ [] := fun q => hne (List.map_eq_nil_iff.mp q)
    have B : (ls.map Prod.fst).length ≤ 1000 := by rw [len]; exact hr
    have main := zs_next_item (prog := X.prog) (w := X.w) (A := X.A) (E := E) (Q := fun r s1 => ∃ u, r = some u ∧ wpAny (model X.prog X.w) X.A (letOwnedTupleGo (.Name nm tpos) (.ref (n + ls.length + 2)) u) (fun _ s2 => ∃ x H', Inv X pins σ H' s2 ∧ RelV x u ∧ (ItzS X.K ls c).yld i H x H' ∧ ZSt s2.heap n (ls.map Prod.fst) (i + 1) ∧ ∀ b ∈ List.range' n (ls.length + 3), H' b = none) E s1)
      st L N B fun h' S' T far => ⟨_, rfl, wpAny_pure ?_⟩
    · rw [len] at main
      exact main
    rw [len] at far
    have lay : ObjOk X.prog X.w (upd H s.heap.objs.size (.tup (ls.map fun p => p.2.getD i .non))) h' s.heap.objs.size (.tup (ls.map fun p => p.2.getD i .non)) := ⟨by show (ls.map _).length ≤ sizeLine; rw [List.length_map]; exact Nat.le_trans hr (by decide), _, rv, ⟨_, T, rfl, _, rfl⟩⟩
    have J : Inv X pins σ (upd H s.heap.objs.size (.tup (ls.map fun p => p.2.getD i .non))) { s with heap := h' } := I.turnedNew (t' := s.toks) (ch := List.range' n (ls.length + 3)) (fun b o hb e => far b o (by rw [List.mem_range'_1] at hb; omega) e) hf (Nat.le_refl _) lay
    refine ⟨.ref s.heap.objs.size, _, J, rfl, ⟨_, ⟨rfl, I.hok.fresh (Nat.le_refl _)⟩, rfl⟩, S', fun b hb => ?_⟩
    obtain ⟨o, eo, _⟩ := cell i _ st b hb
    rw [upd_ne (Nat.ne_of_lt (Heap.lt_size eo))]
    exact (hf b hb).1
  · subst hP hw hK
    obtain ⟨hend, hq⟩ := hg
    have R := rows I hq
    have R2 : ls.map Prod.fst = [] ∨ ∃ l its, (ls.map Prod.fst)[0]? = some l ∧ l < n ∧ s.heap.IsList l its ∧ its[i]? = none := by
      cases ls with
      | nil => exact .inl rfl
      | cons p t =>
        obtain ⟨its, h1, _, h2⟩ := R p (List.mem_cons_self ..)
        refine .inr ⟨p.1, its, rfl, lt p (List.mem_cons_self ..), h1, Array.getElem?_eq_none ?_⟩
        rcases hend with q | q
        · cases q
        · omega
    have := zs_next_end (prog := X.prog) (w := X.w) (A := X.A) (E := E) (Q := fun r s1 => r = none ∧ Inv X pins σ H s1) (I.ok.hd hc) st R2 fun h' hk => ⟨rfl, I.turnedL (t' := s.toks) (ch := List.range' n (ls.length + 3)) (fun b o hb e => hk b o (by rw [List.mem_range'_1] at hb; rw [len]; omega) e) hf⟩
    rw [len] at this
    exact this
  · have := zs_self (E := E) (Q := Q) (A := A) (s := s) (prog := P) (w := w) st (by rw [len]; exact h)
    rw [len] at this
    exact this
def iZipS (K : PySem.W.Frag) (te : TE) : TI := fun σ H R => te σ H fun v H1 => ∃ a c, ∃ ls : List (Addr × List V), v = .ref a ∧ SqL K H1 a (ls.map fun p => .ref p.1) ∧ (∀ p ∈ ls, SqL K H1 p.1 p.2 ∧ p.2.length = c) ∧ ls.length ≤ 1000 ∧ R (ItzS K ls c) H1
theorem pi_zipS {X : Cx} {e : Expr} {te : TE} {p p2 pos tpos : Pos} {nm : Str} (hg : Gl X "zip") (hm : X.mg "zip" = none) (he : PE X e te)
    (hs : starEach [.Starred e p2] X.env = [(true, eval e X.env)] := by rfl) : PI X (.Name nm tpos) (.Call (.Name "zip" p) [.Starred e p2] [] pos) (iZipS X.K te) := by
  refine ⟨fun pins s σ H R I h => Call_ (ld_blt I hg hm PyProof.Rows.boot_zip ?_)⟩
  rw [hs]
  refine PySem.W.ks_call (P := fun _ => True) rfl (fun _ _ => ⟨_, .inr (.inl rfl), PySem.W.Looks.of_pure rfl⟩) (PySem.W.ks_lone (thn (he.run pins s σ H _ I h) fun u t ⟨v, G, J, rv, q⟩ => ?_))
  obtain ⟨a, c, ls, rfl, qa, ql, hl, q⟩ := q
  obtain rfl : u = Value.ref a := rv
  refine StX.star_any J (.inr qa) fun us s2 J2 rv2 => ⟨trivial, ?_⟩
  have eu : ∀ (ls : List (Addr × List V)) (us : List Value), Vals (ls.map fun p => V.ref p.1) us → us = (ls.map Prod.fst).map Value.ref := by
    intro ls
    induction ls with
    | nil => intro us r; cases r; rfl
    | cons p t ih => intro us r; cases r with | cons r rr => cases r; rw [ih _ rr]; rfl
  rw [eu _ _ rv2]
  have ok : ∀ p ∈ ls, ∃ its, s2.heap.IsList p.1 its ∧ p.1 < s2.heap.objs.size := fun p hp => by
    obtain ⟨its, _, pl, _⟩ := J2.list (ql p hp).1
    exact ⟨its.toArray, pl.isList, pl.lt⟩
  have main := zs_begins (prog := X.prog) (w := X.w) (A := X.A) (E := X.xe) (s := s2) (ls.map Prod.fst) (fun l hl => by
    obtain ⟨p, hp, rfl⟩ := List.mem_map.mp hl
    obtain ⟨its, h1, _⟩ := ok p hp
    exact ⟨its, h1⟩) (by rw [List.length_map]; exact hl) (Q := fun v s1 => wpAny (model X.prog X.w) X.A (pyIter v) (PIE X pins σ (.Name nm tpos) R) X.xe s1) fun g S hk => zs_self S ?_
  · exact main
  rw [List.length_map] at *
  refine ⟨_, List.range' s2.heap.objs.size (ls.length + 3), _, _, G, rfl, J2.kept (t' := s2.toks) hk, turn_zs (n := s2.heap.objs.size) (c := c) (fun p hp => by obtain ⟨_, _, l⟩ := ok p hp; exact l) hl, S, fun b hb => ?_, q⟩
  rw [List.mem_range'_1] at hb
  exact J2.fpOk hb.1 (J2.hok.fresh hb.1)
theorem walk_zipS {K : PySem.W.Frag} {ls : List (Addr × List V)} {c : Nat} (hne : ls = [] → c = 0) : Walk (ItzS K ls c) c (fun H => ∀ p ∈ ls, SqL K H p.1 p.2 ∧ p.2.length = c) (fun i H v H' => ∃ T, (v = .ref T ∧ H T = none) ∧ H' = upd H T (.tup (ls.map fun p => p.2.getD i .non))) :=
  ⟨fun i H hi q => ⟨⟨hi, fun z => by have := hne z; omega⟩, q⟩, fun H q => ⟨.inr rfl, q⟩, fun i H v H' _ q y => y⟩
end L2

namespace E1
open PySem PySem.Spec PyProof.Rows L2

theorem rep_all (n : Nat) : (List.replicate n true).all id = true := by
  rw [List.all_eq_true]
  intro x h
  exact (List.mem_replicate.mp h).2
theorem PrL_get {H : Hp} {vs : List V} {ps : List (Int × Int)} (h : PrsAt H vs ps) {i : Nat} {v : V} (e : vs[i]? = some v) : ∃ p t b, v = .ref p ∧ ps[i]? = some (t, b) ∧ (t, b) ∈ ps ∧ H p = some (.tup [.int t, .int b]) := by
  obtain ⟨p, t, b, e1, e2, e3⟩ := h.get e
  exact ⟨p, t, b, e1, e2, List.mem_of_getElem? e2, e3⟩
/-- pairs whose bottoms are above 0 and divide D -/
def Btm (D : Int) (ps : List (Int × Int)) : Prop := D ≠ 0 ∧ D.natAbs < 2 ^ 2000 ∧ ∀ p ∈ ps, 0 < p.2 ∧ p.2 ∣ D ∧ p.1.natAbs < 2 ^ 3000
theorem Btm.lt {D : Int} {ps : List (Int × Int)} (h : Btm D ps) {b : Int} (hb : 0 < b) (d : b ∣ D) : b.natAbs < 2 ^ 2000 := by
  have : b.natAbs ∣ D.natAbs := Int.natAbs_dvd_natAbs.mpr d
  have := Nat.le_of_dvd (by have := h.1; omega) this
  exact Nat.lt_of_le_of_lt this h.2.1
theorem Btm.com {D : Int} {ps : List (Int × Int)} (h : Btm D ps) : 0 < com (ps.map (·.2)) ∧ com (ps.map (·.2)) ∣ D ∧ ∀ p ∈ ps, p.2 ∣ com (ps.map (·.2)) := by
  have hp : ∀ b ∈ ps.map (·.2), 0 < b ∧ b ∣ D := fun b hb => by
    obtain ⟨p, h1, rfl⟩ := List.mem_map.mp hb
    exact ⟨(h.2.2 p h1).1, (h.2.2 p h1).2.1⟩
  obtain ⟨c1, _, c3, c4⟩ := com_ok (ps.map (·.2)) 1 (by decide) fun b hb => (hp b hb).1
  exact ⟨c1, c4 D (Int.one_dvd D) fun b hb => (hp b hb).2, fun p hp' => c3 _ (List.mem_map.mpr ⟨p, hp', rfl⟩)⟩
theorem Btm.take {D : Int} {ps : List (Int × Int)} (h : Btm D ps) (n : Nat) : Btm D (ps.take n) := ⟨h.1, h.2.1, fun p hp => h.2.2 p (List.mem_of_mem_take hp)⟩
def spIsFrs : Sp := fun vs H Q _ => ∃ (a : Addr) (qs : List Rat), vs = [.ref a] ∧ FrL H a qs ∧ qs.length ≤ 1000 ∧ ∀ H', Same H H' → Q (.bl true) H'
def spCom : Sp := fun vs H Q _ => ∃ (a : Addr) (ws : List V) (ps : List (Int × Int)) (D : Int), vs = [.ref a] ∧ H a = some (.lst ws) ∧ PrsAt H ws ps ∧ Btm D ps ∧ Q (.int (com (ps.map (·.2)))) H
def spCleared : Sp := fun vs H Q _ => ∃ (a : Addr) (ws : List V) (ps : List (Int × Int)) (D : Int), vs = [.ref a] ∧ H a = some (.lst ws) ∧ PrsAt H ws ps ∧ Btm D ps ∧ ps.length ≤ 1000 ∧
  ∀ T l H', Same H H' → H' T = some (.tup [.ref l, .int (com (ps.map (·.2)))]) → H' l = some (.lst ((tops (com (ps.map (·.2))) ps).map V.int)) → Q (.ref T) H'
theorem FrL.len {H : Hp} {a : Addr} {qs : List Rat} (h : FrL H a qs) : ∃ vs, H a = some (.lst vs) ∧ vs.length = qs.length ∧ FrsAt H vs qs := by
  obtain ⟨vs, e, r⟩ := h
  exact ⟨vs, e, FrsAt.len r, r⟩

/-- // by a whole number other than 0 -/
def CDivNW (_ j : Int) : Prop := j ≠ 0 ∧ j.natAbs.log2 < 9000
theorem op_fdivNW {X : Cx} : OpR X (binaryOp .FloorDiv) (rI CDivNW fun i j => .int (i.fdiv j)) := opI fun _ _ _ _ _ _ _ hc q => floordiv_int hc.1 q (.inl (PyProof.noPylong_of_log2 hc.2))
theorem wide_divN {i j : Int} {b : Nat} (h : j ≠ 0) (hb : j.natAbs < 2 ^ b) (h0 : 0 < b) (h9 : b ≤ 9000) : CDivNW i j := ⟨h, Nat.lt_of_lt_of_le (PySem.Flt.log2_lt_of h0 hb) h9⟩
theorem iteC {c d : Bool} {A B : Prop} (e : c = d) (h : if d = true then A else B) : if c = true then A else B := e ▸ h
def dotZ : List Int → List Int → Int
  | x :: xs, y :: ys => x * y + dotZ xs ys
  | _, _ => 0
def mulZ : List Int → List Int → List Int
  | x :: xs, y :: ys => x * y :: mulZ xs ys
  | _, _ => []
theorem mulZ_sum : ∀ xs ys : List Int, (mulZ xs ys).sum = dotZ xs ys
  | [], ys => by cases ys <;> rfl
  | x :: xs, [] => rfl
  | x :: xs, y :: ys => by
    show (x * y :: mulZ xs ys).sum = x * y + dotZ xs ys
    rw [List.sum_cons, mulZ_sum xs ys]
theorem mulZ_len : ∀ xs ys : List Int, (mulZ xs ys).length = min xs.length ys.length
  | [], ys => by cases ys <;> simp [mulZ]
  | x :: xs, [] => by simp [mulZ]
  | x :: xs, y :: ys => by
    show (mulZ xs ys).length + 1 = min (xs.length + 1) (ys.length + 1)
    rw [mulZ_len xs ys]
    omega
theorem mulZ_take : ∀ (xs ys : List Int) (i : Nat) (x y : Int), xs[i]? = some x → ys[i]? = some y → mulZ (xs.take (i + 1)) (ys.take (i + 1)) = mulZ (xs.take i) (ys.take i) ++ [x * y]
  | a :: xs, b :: ys, 0, x, y, h1, h2 => by
    cases h1
    cases h2
    rfl
  | a :: xs, b :: ys, i + 1, x, y, h1, h2 => by
    show a * b :: mulZ (xs.take (i + 1)) (ys.take (i + 1)) = a * b :: (mulZ (xs.take i) (ys.take i) ++ [x * y])
    rw [mulZ_take xs ys i x y h1 h2]
  | [], _, _, _, _, h1, _ => by cases h1
  | _ :: _, [], _, _, _, _, h2 => by cases h2
def Bits (n : Nat) (xs : List Int) : Prop := ∀ x ∈ xs, x.natAbs < 2 ^ n
def spDot : Sp := fun vs H Q _ => ∃ (a c : Addr) (xs ys : List Int), vs = [.ref a, .ref c] ∧ H a = some (.lst (xs.map V.int)) ∧ H c = some (.lst (ys.map V.int)) ∧ xs.length ≤ 1000 ∧ Bits 4000 xs ∧ Bits 4000 ys ∧ ∀ H', Same H H' → Q (.int (dotZ xs ys)) H'
/-- rows of whole numbers -/
def RwL (H : Hp) (vs : List V) (rs : List (List Int)) : Prop := vs.length = rs.length ∧ ∀ (i : Nat) (r : List Int), rs[i]? = some r → ∃ b, vs[i]? = some (.ref b) ∧ H b = some (.lst (r.map V.int))
theorem RwL.same {H H' : Hp} {vs : List V} {ss : List (List Int)} (h : RwL H vs ss) (s : Same H H') : RwL H' vs ss := ⟨h.1, fun i x e => let ⟨b, e1, f⟩ := h.2 i x e; ⟨b, e1, s _ _ f⟩⟩
theorem RwL.get {H : Hp} {vs : List V} {ss : List (List Int)} (h : RwL H vs ss) {i : Nat} {v : V} (e : vs[i]? = some v) : ∃ b s, v = .ref b ∧ ss[i]? = some s ∧ H b = some (.lst (s.map V.int)) := by
  have hi := (List.getElem?_eq_some_iff.mp e).1
  have e2 : ss[i]? = some (ss[i]'(by rw [← h.1]; exact hi)) := List.getElem?_eq_getElem _
  obtain ⟨b, e3, f⟩ := h.2 i _ e2
  rw [e] at e3
  cases e3
  exact ⟨b, _, rfl, e2, f⟩
theorem RwL.app {H : Hp} {vs us : List V} {ss ts : List (List Int)} (h : RwL H vs ss) (g : RwL H us ts) : RwL H (vs ++ us) (ss ++ ts) := by
  refine ⟨by rw [List.length_append, List.length_append, h.1, g.1], fun i s e => ?_⟩
  by_cases c : i < ss.length
  · rw [List.getElem?_append_left c] at e
    rw [List.getElem?_append_left (by rw [h.1]; exact c)]
    exact h.2 i s e
  · rw [List.getElem?_append_right (by omega)] at e
    rw [List.getElem?_append_right (by rw [h.1]; omega), h.1]
    exact g.2 _ s e
theorem RwL.one {H : Hp} {b : Addr} {s : List Int} (h : H b = some (.lst (s.map V.int))) : RwL H [.ref b] [s] := by
  refine ⟨rfl, fun i t e => ?_⟩
  match i with
  | 0 => cases e; exact ⟨b, rfl, h⟩
  | i + 1 => cases e
theorem RwL.drop {H : Hp} {vs : List V} {ss : List (List Int)} (h : RwL H vs ss) (n : Nat) : RwL H (vs.drop n) (ss.drop n) := by
  refine ⟨by rw [List.length_drop, List.length_drop, h.1], fun i s e => ?_⟩
  rw [List.getElem?_drop] at e ⊢
  exact h.2 _ s e
theorem RwL.take {H : Hp} {vs : List V} {ss : List (List Int)} (h : RwL H vs ss) (n : Nat) : RwL H (vs.take n) (ss.take n) := by
  refine ⟨by rw [List.length_take, List.length_take, h.1], fun i s e => ?_⟩
  rw [List.getElem?_take] at e ⊢
  split at e
  · rw [if_pos (by assumption)]
    exact h.2 _ s e
  · cases e
theorem RwL.set {H : Hp} {vs : List V} {ss : List (List Int)} (h : RwL H vs ss) {k : Nat} {b : Addr} {s : List Int} (f : H b = some (.lst (s.map V.int))) : RwL H (vs.set k (.ref b)) (ss.set k s) := by
  refine ⟨by rw [List.length_set, List.length_set, h.1], fun i t e => ?_⟩
  rw [List.getElem?_set] at e ⊢
  split at e
  · rename_i c
    rw [if_pos c]
    split at e
    · rename_i c2
      cases e
      rw [if_pos (by rw [h.1]; exact c2)]
      exact ⟨b, rfl, f⟩
    · cases e
  · rename_i c
    rw [if_neg c]
    exact h.2 i t e
/-- a list of rows is no row of numbers -/
theorem RwL.but {H H' : Hp} {D : Addr} {us vs : List V} {ss : List (List Int)} (h : RwL H vs ss) (hD : H D = some (.lst us)) (n : ∀ v ∈ vs, v ≠ .ref D) (t : SameBut D H H') : RwL H' vs ss :=
  ⟨h.1, fun i s e => let ⟨b, e1, f⟩ := h.2 i s e; ⟨b, e1, t _ _ (fun z => n _ (List.mem_of_getElem? e1) (by rw [z])) f⟩⟩
section
variable {P : Program} {w : World} {K : PySem.W.Frag} {mg : Str → Option Value} {base : Heap}
theorem sc_is_fractions : FnScope ["thing", "one"] ["thing"] (defScope s_is_fractions) := ⟨rfl, rfl, rfl, by decide +kernel, rfl, by decide +kernel, by decide +kernel⟩
theorem ok_is_fractions {f : Addr} {fd : FuncData} (F : Fun K "is_fractions" "is_fractions" s_is_fractions f fd) (z : Zs mg) (c_is_fraction : Cal P w K mg base 2 "is_fraction" ["thing"] spIsFrac) : FnOk P w K mg base CX0 3 f fd ["thing"] spIsFrs := by
  refine F.ok sc_is_fractions (fun vs H Q E h => ?_) (fun cdv A outer s H vs Q E hr h => ?_)
  · obtain ⟨a, qs, rfl, _⟩ := h
    rfl
  · obtain ⟨a, qs, rfl, ⟨vs, ha, hq⟩, hl, q⟩ := h
    refine ⟨_, (pss_one (ps_ret (pe_and (pe_callB call_isi (by rfl) z.isinstance (by decide +kernel) (pa_cons (pv 0) (pa_cons (pe_bltn (v := .ty "list") (by rfl) z.list (by decide +kernel) rfl) pa_nil))) (pe_one (pe_callB (cr_all rfl) (by rfl) z.all (by decide +kernel) (pa_cons (pe_lc (own := [("one", 1)]) (g := gName 1) (tt := tYes) (te := (tCall spIsFrac [] E0 (tCons (tVar 1) tNil))) (by rfl) sc_is_fractions.nd (pi_list (pv 0)) (blkOk_by (own := [("one", 1)]) (N := ["thing", "one"]) (sc := defScope s_is_fractions) (by decide +kernel)) (fun _ _ _ _ _ => by exact (pg_name (i := 1) sc_is_fractions.nd rfl (.inl rfl))) (fun _ _ _ _ _ => by exact pts_nil) (fun _ _ _ _ _ => by exact (pe_cal c_is_fraction hr (pa_cons (pv 1) pa_nil)))) pa_nil)))))), ?_⟩
    have hlen := FrsAt.len hq
    refine ⟨_, rfl, _, .ty "list", _, _, true, rfl, .ty _, .base (.lst ha), kit_ty (by decide +kernel), _, rfl, iteT ⟨_, rfl, a, rfl, ⟨_, SqL.of ha⟩, fun D hD => lc_list (K := K) (a := a) (xs := vs) (fun i H' => Same H H' ∧ H' D = some (.lst (List.replicate i (V.bl true)))) ⟨same_new hD, upd_same⟩ (fun i H' _ hP => SqL.of (hP.1 _ _ ha)) (fun i x H' hx hP => ?_) (fun H' hP => ?_)⟩⟩
    · obtain ⟨s1, hacc⟩ := hP
      obtain ⟨p, r, rfl, hr', hp⟩ := FrsAt.get hq hx
      have hi := (List.getElem?_eq_some_iff.mp hx).1
      have d0 := den_ge r
      refine ⟨rfl, _, rfl, p, r.num, r.den, rfl, s1 _ _ hp, by omega, ?_⟩
      rw [q_gcd, decide_eq_true rfl]
      refine ⟨_, hacc, ?_, fun b o e => ?_, ?_⟩
      · rw [List.length_replicate]
        exact small1000 (by omega)
      · rw [upd_ne (ne_of_none e hD)]
        exact s1 _ _ e
      · rw [upd_same, List.replicate_succ']
    · obtain ⟨s1, hacc⟩ := hP
      refine ⟨D, List.replicate _ true, rfl, SqL.of (by rw [List.map_replicate]; exact hacc), ?_⟩
      rw [rep_all]
      exact q _ s1
theorem sc_common_bottom : FnScope ["pairs", "common", "pair"] ["pairs"] (defScope s_common_bottom) := ⟨rfl, rfl, rfl, by decide +kernel, rfl, by decide +kernel, by decide +kernel⟩
theorem ok_common_bottom {f : Addr} {fd : FuncData} (F : Fun K "common_bottom" "common_bottom" s_common_bottom f fd) (z : Zs mg) (c_shared_divisor : Cal P w K mg base 1 "shared_divisor" ["top", "bottom"] spShared) : FnOk P w K mg base CX0 2 f fd ["pairs"] spCom := by
  refine F.ok sc_common_bottom (fun vs H Q E h => ?_) (fun cdv A outer s H vs Q E hr h => ?_)
  · obtain ⟨a, ws, ps, D, rfl, _⟩ := h
    rfl
  · obtain ⟨a, ws, ps, D, rfl, ha, hp0, hB, q⟩ := h
    refine ⟨_, (pss_cons (ps_set (i := 1) sc_common_bottom.nd rfl (.inl rfl) pe_int)
      (pss_cons (ps_for PassesOwn.never rfl (pi_list (pv 0)) (pg_name (i := 2) sc_common_bottom.nd rfl (.inl rfl)) (pss_one (ps_if (pt_truth (pe_op op_mod (pv 1) (pe_ix ix_tup (pv 2) pe_int (fun _ _ => rfl))) (by intro _; rfl)) (pss_one (ps_set (i := 1) sc_common_bottom.nd rfl (.inl rfl) (pe_op op_mulW (pe_op op_fdivW (pv 1) (pe_cal c_shared_divisor hr (pa_cons (pv 1) (pa_cons (pe_ix ix_tup (pv 2) pe_int (fun _ _ => rfl)) pa_nil)))) (pe_ix ix_tup (pv 2) pe_int (fun _ _ => rfl))))) pss_nil)))
      (pss_one (ps_ret (pv 1))))), ?_⟩
    have hlen := hp0.len
    refine ⟨_, rfl, a, rfl, ⟨_, SqL.of ha⟩, for_list (K := K) (a := a) (xs := ws) (fun i σ H' => H' = H ∧ ∃ y : Option V, σ = [some (.ref a), some (.int (com ((ps.take i).map (·.2)))), y]) ⟨rfl, none, rfl⟩ (fun i σ H' _ hP => hP.1 ▸ SqL.of ha) (fun i x σ H' hx hP => ?_) (fun σ H' hP => ?_)⟩
    · obtain ⟨rfl, y, rfl⟩ := hP
      obtain ⟨p, t, b, rfl, hi, hm, hp⟩ := PrL_get hp0 hx
      obtain ⟨b0, bD, _⟩ := hB.2.2 _ hm
      obtain ⟨c0, cD, _⟩ := (hB.take i).com
      have b1 := hB.lt b0 bD
      have c1 := hB.lt c0 cD
      have e : com ((ps.take (i + 1)).map (·.2)) = lcmI (com ((ps.take i).map (·.2))) b := by
        rw [List.take_succ, hi, Option.toList_some, List.map_append]
        unfold com
        rw [List.foldl_append]
        rfl
      generalize hc : com ((ps.take i).map (·.2)) = c at *
      refine ⟨_, rfl, _, rfl, p, _, 1, .int b, rfl, rfl, SqT.of hp, a1, _, _, rfl, rfl, (by show 0 < b; exact b0), _, rfl, ?_⟩
      by_cases c2 : c % b = 0
      · rw [c2]
        refine iteF ⟨rfl, some (.ref p), ?_⟩
        rw [e]
        unfold lcmI
        rw [if_pos c2]
        rfl
      · have ne : (c % b != 0) = true := by
          rw [bne_iff_ne]
          exact c2
        rw [ne]
        have g0 := gI_pos (t := c) (b := b) (by omega)
        have g1 : (gI c b).natAbs < 2 ^ 2000 := Nat.lt_of_le_of_lt (gI_le (by omega)) b1
        have q1 : (c / gI c b).natAbs < 2 ^ 2000 := by
          have h1 : 0 ≤ c / gI c b := Int.ediv_nonneg (by omega) (by omega)
          have h2 : c / gI c b ≤ c := Int.ediv_le_self _ (by omega)
          omega
        refine iteT ⟨_, rfl, _, rfl, _, rfl, p, _, 1, .int b, rfl, rfl, SqT.of hp, a1, c, b, rfl, by omega, _, _, rfl, rfl, wide_div g0 g1 (by decide) (by decide), _, rfl, p, _, 1, .int b, rfl, rfl, SqT.of hp, a1, _, _, rfl, rfl, wide_mul q1 b1 (by decide) (by decide) (by decide), rfl, some (.ref p), ?_⟩
        rw [e]
        unfold lcmI
        rw [if_neg c2]
        rfl
    · obtain ⟨rfl, y, rfl⟩ := hP
      rw [hlen, List.take_length]
      exact ⟨_, rfl, q⟩
theorem sc_cleared : FnScope ["pairs", "common", "top", "bottom"] ["pairs"] (defScope s_cleared) := ⟨rfl, rfl, rfl, by decide +kernel, rfl, by decide +kernel, by decide +kernel⟩
theorem ok_cleared {f : Addr} {fd : FuncData} (F : Fun K "cleared" "cleared" s_cleared f fd) (c_common_bottom : Cal P w K mg base 2 "common_bottom" ["pairs"] spCom) : FnOk P w K mg base CX0 3 f fd ["pairs"] spCleared := by
  refine F.ok sc_cleared (fun vs H Q E h => ?_) (fun cdv A outer s H vs Q E hr h => ?_)
  · obtain ⟨a, ws, ps, D, rfl, _⟩ := h
    rfl
  · obtain ⟨a, ws, ps, D, rfl, ha, hp0, hB, hl, q⟩ := h
    refine ⟨_, (pss_cons (ps_set (i := 1) sc_cleared.nd rfl (.inr rfl) (pe_cal c_common_bottom hr (pa_cons (pv 0) pa_nil)))
      (pss_one (ps_ret (pe_tup (pa_cons (pe_lc (own := [("top", 2), ("bottom", 3)]) (g := gTup K 2 (gCons (gName 2) (gCons (gName 3) gNil))) (tt := tYes) (te := (tOp (rI CMulW fun i j => V.int (i * j)) (tVar 2) (tOp (rI CDivW fun i j => V.int (i / j)) (tVar 1) (tVar 3)))) (by rfl) sc_cleared.nd (pi_list (pv 0)) (blkOk_by (own := [("top", 2), ("bottom", 3)]) (N := ["pairs", "common", "top", "bottom"]) (sc := defScope s_cleared) (by decide +kernel)) (fun _ _ _ _ _ => by exact (pg_tup (by rfl) (pgs_cons (pg_name (i := 2) sc_cleared.nd rfl (.inl rfl)) (pgs_cons (pg_name (i := 3) sc_cleared.nd rfl (.inl rfl)) pgs_nil)))) (fun _ _ _ _ _ => by exact pts_nil) (fun _ _ _ _ _ => by exact (pe_op op_mulW (pv 2) (pe_op op_fdivW (pv 1) (pv 3))))) (pa_cons (pv 1) pa_nil)))))), ?_⟩
    have hlen := hp0.len
    obtain ⟨c0, cD, cdv⟩ := hB.com
    have c1 := hB.lt c0 cD
    refine ⟨_, rfl, a, ws, ps, D, rfl, ha, hp0, hB, ?_⟩
    generalize com (ps.map (·.2)) = c at *
    refine ⟨_, rfl, a, rfl, ⟨_, SqL.of ha⟩, fun l hD => lc_list (K := K) (a := a) (xs := ws) (fun i H' => Same H H' ∧ H' l = some (.lst ((tops c (ps.take i)).map V.int))) ⟨same_new hD, upd_same⟩ (fun i H' _ hP => SqL.of (hP.1 _ _ ha)) (fun i x H' hx hP => ?_) (fun H' hP => ?_)⟩
    · obtain ⟨s1, hacc⟩ := hP
      obtain ⟨p, t, b, rfl, hi, hm, hp⟩ := PrL_get hp0 hx
      obtain ⟨b0, bD, t1⟩ := hB.2.2 _ hm
      have b1 := hB.lt b0 bD
      have li := (List.getElem?_eq_some_iff.mp hi).1
      have q1 : (c / b).natAbs < 2 ^ 2000 := by
        have h1 : 0 ≤ c / b := Int.ediv_nonneg (by omega) (by omega)
        have h2 : c / b ≤ c := Int.ediv_le_self _ (by omega)
        omega
      refine ⟨p, [.int t, .int b], rfl, SqT.of (s1 _ _ hp), rfl, _, _, rfl, _, _, rfl, rfl, rfl, ?_⟩
      refine ⟨_, rfl, _, rfl, _, rfl, _, _, rfl, rfl, wide_div b0 b1 (by decide) (by decide), _, _, rfl, rfl, wide_mul t1 q1 (by decide) (by decide) (by decide), _, hacc, ?_, fun b' o e => ?_, ?_⟩
      · unfold tops
        rw [List.length_map, List.length_map, List.length_take]
        exact small1000 (by omega)
      · rw [upd_ne (ne_of_none e hD)]
        exact s1 _ _ e
      · rw [upd_same, List.take_succ, hi, Option.toList_some]
        unfold tops
        rw [List.map_append, List.map_append]
        rfl
    · obtain ⟨s1, hacc⟩ := hP
      rw [hlen, List.take_length] at hacc
      refine ⟨_, rfl, (by show 2 ≤ sizeLine; decide), fun T hT => ?_⟩
      exact q T l _ (s1.trans (same_new hT)) upd_same (same_new hT _ _ hacc)
theorem sc_dot : FnScope ["numbers", "others", "number", "other"] ["numbers", "others"] (defScope s_dot) := ⟨rfl, rfl, rfl, by decide +kernel, rfl, by decide +kernel, by decide +kernel⟩
theorem ok_dot {f : Addr} {fd : FuncData} {k : Nat} (F : Fun K "dot" "dot" s_dot f fd) (z : Zs mg) : FnOk P w K mg base CX0 (k + 1) f fd ["numbers", "others"] spDot := by
  refine F.ok sc_dot (fun vs H Q E h => ?_) (fun cdv A outer s H vs Q E hr h => ?_)
  · obtain ⟨a, c, xs, ys, rfl, _⟩ := h
    rfl
  · obtain ⟨a, c, xs, ys, rfl, ha, hc, hl, b1, b2, k⟩ := h
    refine ⟨_, (pss_one (ps_ret (pe_callB (cr_sum rfl) (by rfl) z.sum (by decide +kernel) (pa_cons (pe_lc (own := [("number", 2), ("other", 3)]) (g := gTup K 2 (gCons (gName 2) (gCons (gName 3) gNil))) (tt := tYes) (te := (tOp (rI CMulW fun i j => V.int (i * j)) (tVar 2) (tVar 3))) (by rfl) sc_dot.nd (RZ.pi_zipA (by rfl) z.zip (pa_cons (pv 0) (pa_cons (pv 1) pa_nil))) (blkOk_by (own := [("number", 2), ("other", 3)]) (N := ["numbers", "others", "number", "other"]) (sc := defScope s_dot) (by decide +kernel)) (fun _ _ _ _ _ => by exact (pg_tup (by rfl) (pgs_cons (pg_name (i := 2) sc_dot.nd rfl (.inl rfl)) (pgs_cons (pg_name (i := 3) sc_dot.nd rfl (.inl rfl)) pgs_nil)))) (fun _ _ _ _ _ => by exact pts_nil) (fun _ _ _ _ _ => by exact (pe_op op_mulW (pv 2) (pv 3)))) pa_nil)))), ?_⟩
    refine ⟨_, rfl, _, rfl, a, c, _, _, rfl, .inl ⟨SqL.of ha, SqL.of hc, fun D hD => ?_⟩⟩
    refine lc_it (walk_zip (K := K) (a := a) (b := c) (xs := xs.map V.int) (ys := ys.map V.int) rfl) (fun i H2 => Same H H2 ∧ H2 D = some (.lst ((mulZ (xs.take i) (ys.take i)).map V.int))) ⟨same_new hD, by rw [List.take_zero]; exact upd_same⟩ (fun i H2 _ hP => ⟨SqL.of (hP.1 _ _ ha), SqL.of (hP.1 _ _ hc)⟩) (fun i x H2 H3 hi hP hY => ?_) (fun H2 hP => ?_)
    · obtain ⟨s1, hacc⟩ := hP
      obtain ⟨Tp, u, v, rfl, nT, rfl, e1, e2⟩ := hY
      replace e1 : (xs.map V.int)[i]? = some u := e1
      replace e2 : (ys.map V.int)[i]? = some v := e2
      rw [List.getElem?_map] at e1 e2
      obtain ⟨n, n1, rfl⟩ := Option.map_eq_some_iff.mp e1
      obtain ⟨m, m1, rfl⟩ := Option.map_eq_some_iff.mp e2
      have li := (List.getElem?_eq_some_iff.mp n1).1
      have sN := same_new (o := .tup [.int n, .int m]) nT
      refine ⟨Tp, [.int n, .int m], rfl, SqT.of upd_same, rfl, _, _, rfl, _, _, rfl, rfl, rfl, ?_⟩
      refine ⟨_, rfl, _, rfl, _, _, rfl, rfl, wide_mul (b1 n (List.mem_of_getElem? n1)) (b2 m (List.mem_of_getElem? m1)) (by decide) (by decide) (by decide), _, sN _ _ hacc, ?_, fun b o e => ?_, ?_⟩
      · rw [List.length_map, mulZ_len, List.length_take]
        exact small1000 (by omega)
      · rw [upd_ne (ne_of_none e hD)]
        exact sN _ _ (s1 _ _ e)
      · rw [upd_same, mulZ_take xs ys i n m n1 m1, List.map_append]
        rfl
    · obtain ⟨s1, hacc⟩ := hP
      refine ⟨D, _, rfl, SqL.of hacc, ?_⟩
      rw [mulZ_sum, List.length_map, List.length_map]
      have e : ∀ (xs ys : List Int), dotZ (xs.take (min xs.length ys.length)) (ys.take (min xs.length ys.length)) = dotZ xs ys := fun xs => by
        induction xs with
        | nil => intro ys; cases ys <;> rfl
        | cons x xs ih =>
          intro ys
          cases ys with
          | nil => rfl
          | cons y ys =>
            rw [List.length_cons, List.length_cons, Nat.succ_min_succ]
            show x * y + dotZ (xs.take _) (ys.take _) = x * y + dotZ xs ys
            rw [ih ys]
      rw [e]
      exact k _ s1
end
end E1

namespace E1
open PySem PySem.Spec PyProof.Rows L2

/-- what is asked of the rows with which it begins -/
structure Fine (A : List (List Int)) (m : Nat) : Prop where
  n10 : A.length ≤ 10
  mn : A.length ≤ m ∧ m ≤ A.length + 1
  wid : ∀ r ∈ A, r.length = m
  bd : ∃ M, 1 ≤ M ∧ Bd A M ∧ (A.length + 1) * (fac A.length * M ^ A.length) < 2 ^ 3400
theorem fac_mono : ∀ {a b : Nat}, a ≤ b → fac a ≤ fac b := fun {a b} h => by
  induction h with
  | refl => exact Nat.le_refl _
  | step _ ih => exact Nat.le_trans ih (Nat.le_mul_of_pos_left _ (Nat.succ_pos _))
theorem Fine.lt {A : List (List Int)} {m : Nat} (F : Fine A m) : ∃ M, 1 ≤ M ∧ Bd A M ∧ ∀ k x, k ≤ A.length → x ≤ (A.length + 1) * (fac k * M ^ k) → x < 2 ^ 3400 := by
  obtain ⟨M, h1, h2, h3⟩ := F.bd
  exact ⟨M, h1, h2, fun k x hk hx => Nat.lt_of_le_of_lt (Nat.le_trans hx (Nat.mul_le_mul_left _ (Nat.mul_le_mul (fac_mono hk) (Nat.pow_le_pow_right h1 hk)))) h3⟩
theorem Stg.sizeN {A rs : List (List Int)} {m M : Nat} {σ : Nat → Nat} {k : Nat} (S : Stg A rs m σ k) (hB : Bd A M) (h1 : 1 ≤ M) {i j : Nat} (hi : i < A.length) (hj : j < m) : (en rs i j).natAbs ≤ fac A.length * M ^ A.length := by
  obtain ⟨z, ez, bz⟩ := bb_wh (cA_wh hB σ) (cA_wh hB σ i) (min i k) j
  have e := S.val i j hi hj
  rw [ez] at e
  rw [Rat.intCast_inj.mp e]
  exact Nat.le_trans bz (Nat.mul_le_mul (fac_mono (by omega)) (Nat.pow_le_pow_right h1 (by omega)))
theorem Stg.bits {A rs : List (List Int)} {m : Nat} {σ : Nat → Nat} {k : Nat} (S : Stg A rs m σ k) (F : Fine A m) {i j : Nat} (hi : i < A.length) (hj : j < m) : (en rs i j).natAbs < 2 ^ 3400 := by
  obtain ⟨M, h1, h2, h3⟩ := F.lt
  have := S.sizeN h2 h1 hi hj
  exact h3 A.length _ (Nat.le_refl _) (Nat.le_trans this (Nat.le_mul_of_pos_left _ (Nat.succ_pos _)))
theorem Stg.row {A rs : List (List Int)} {m : Nat} {σ : Nat → Nat} {k : Nat} (S : Stg A rs m σ k) (F : Fine A m) {i : Nat} {r : List Int} (hr : rs[i]? = some r) : r.length = m ∧ i < A.length ∧ (∀ j, en rs i j = r.getD j 0) ∧ Bits 3400 r := by
  have li := (List.getElem?_eq_some_iff.mp hr).1
  rw [S.len] at li
  have w := S.wid r (List.mem_of_getElem? hr)
  have e : ∀ j, en rs i j = r.getD j 0 := fun j => en_at hr
  refine ⟨w, li, e, fun x hx => ?_⟩
  obtain ⟨j, hj⟩ := List.mem_iff_getElem?.mp hx
  have lj := (List.getElem?_eq_some_iff.mp hj).1
  have b := S.bits F li (j := j) (by omega)
  rw [e, List.getD_eq_getElem?_getD, hj] at b
  exact b
theorem Fine.last {A : List (List Int)} {m : Nat} (F : Fine A m) {σ : Nat → Nat} {k : Nat} {last : Int} (hk : k ≤ A.length) (h : (last : Rat) = dd (cA A σ) k) : last.natAbs < 2 ^ 3400 := by
  obtain ⟨M, h1, h2, h3⟩ := F.lt
  obtain ⟨z, e, b⟩ := dd_wh (cA_wh h2 σ) k
  rw [← h] at e
  rw [Rat.intCast_inj.mp e]
  exact h3 k _ (by omega) (Nat.le_trans b (Nat.le_mul_of_pos_left _ (Nat.succ_pos _)))
theorem atZ {r : List Int} {k : Nat} (h : k < r.length) : atI (r.map V.int) (k : Int) = some (.int (r.getD k 0)) := by
  refine atI_nat ?_
  rw [List.getElem?_map, List.getD_eq_getElem?_getD, List.getElem?_eq_getElem h]
  rfl
theorem Bits.at {n : Nat} {r : List Int} (h : Bits n r) (k : Nat) : (r.getD k 0).natAbs < 2 ^ n := by
  rw [List.getD_eq_getElem?_getD]
  cases e : r[k]? with
  | none => exact Nat.pow_pos (by decide)
  | some x => exact h x (List.mem_of_getElem? e)
theorem RwL.row {H : Hp} {vs : List V} {ss : List (List Int)} (h : RwL H vs ss) {i : Nat} (hi : i < ss.length) : ∃ b s, vs[i]? = some (.ref b) ∧ ss[i]? = some s ∧ ss.getD i [] = s ∧ H b = some (.lst (s.map V.int)) := by
  obtain ⟨b, e1, e2⟩ := h.2 i _ (List.getElem?_eq_getElem hi)
  exact ⟨b, _, e1, List.getElem?_eq_getElem hi, by rw [List.getD_eq_getElem?_getD, List.getElem?_eq_getElem hi]; rfl, e2⟩
theorem ixZ {n j : Nat} (hj : j < n) : ixN n (j : Int) = some j := by
  unfold ixN
  rw [if_pos (by omega), if_pos (by omega)]
  rfl
theorem cut_to {vs : List V} {n : Nat} : cutV vs none (some (n : Int)) = vs.take n := by
  unfold cutV
  rw [HT.sIx_none, HT.sIx_nat, List.drop_zero, Nat.sub_zero]
  by_cases h : n ≤ vs.length
  · rw [Nat.min_eq_left h]
  · rw [Nat.min_eq_right (by omega), List.take_of_length_le (Nat.le_refl _), List.take_of_length_le (by omega)]
theorem cut_from {vs : List V} {n : Nat} : cutV vs (some (n : Int)) none = vs.drop n := by
  unfold cutV
  rw [HT.sIx_none, HT.sIx_nat]
  by_cases h : n ≤ vs.length
  · rw [Nat.min_eq_left h, List.take_of_length_le (by rw [List.length_drop]; exact Nat.le_refl _)]
  · rw [Nat.min_eq_right (by omega), Nat.sub_self, List.take_zero, List.drop_of_length_le (by omega)]
def spBelow : Sp := fun vs H Q _ => ∃ (a : Addr) (ws : List V) (A rs : List (List Int)) (m : Nat) (σ : Nat → Nat) (k : Nat) (last : Int), vs = [.ref a, .int (k : Nat), .int last] ∧ H a = some (.lst ws) ∧ RwL H ws rs ∧ Stg A rs m σ k ∧ Fine A m ∧ k < A.length ∧ (last : Rat) = dd (cA A σ) k ∧
  ∀ p us H', H p = none → Same H H' → H' p = some (.lst us) → RwL H' us (belowL rs k last m) → Q (.ref p) H'

/-- how the steps end that exchange no rows -/
def EndA (A rs : List (List Int)) (m k : Nat) : Prop := Stg A rs m id k ∧ (∀ i, i < k → 0 < en rs i i) ∧ (k = A.length ∨ k < A.length ∧ en rs k k ≤ 0)
def spAbove : Sp := fun vs H Q _ => ∃ (a : Addr) (ws : List V) (A : List (List Int)) (m : Nat), vs = [.ref a] ∧ H a = some (.lst ws) ∧ RwL H ws A ∧ Fine A m ∧
  ∀ p q us rs k H', Same H H' → H' p = some (.tup [.ref q, .int (k : Nat)]) → H' q = some (.lst us) → RwL H' us rs → EndA A rs m k → Q (.ref p) H'
section
variable {P : Program} {w : World} {K : PySem.W.Frag} {mg : Str → Option Value} {base : Heap}
theorem sc_below_cleared : FnScope ["rows", "at", "last", "lead", "done", "row", "tail", "k"] ["rows", "at", "last"] (defScope s_below_cleared) := ⟨rfl, rfl, rfl, by decide +kernel, rfl, by decide +kernel, by decide +kernel⟩
theorem ok_below_cleared {f : Addr} {fd : FuncData} {k : Nat} (F : Fun K "below_cleared" "below_cleared" s_below_cleared f fd) (z : Zs mg) : FnOk P w K mg base CX0 (k + 1) f fd ["rows", "at", "last"] spBelow := by
  refine F.ok sc_below_cleared (fun vs H Q E h => ?_) (fun cdv A outer s H vs Q E hr h => ?_)
  · obtain ⟨a, ws, A, rs, m, σ, k, last, rfl, _⟩ := h
    rfl
  · obtain ⟨a, ws, A, rs, m, σ, k9, last, rfl, ha, hw, S, FA, hk, hl, k⟩ := h
    refine ⟨_, (pss_cons (ps_set (i := 3) sc_below_cleared.nd rfl (.inr rfl) (pe_ix ix_list (pv 0) (pv 1) (fun _ _ => rfl)))
      (pss_cons (ps_set (i := 4) sc_below_cleared.nd rfl (.inl rfl) (pe_slice sl_list (pv 0) po_none (po_some (pe_op op_add (pv 1) pe_int))))
      (pss_cons (ps_for PassesOwn.never rfl (pi_list (pe_slice sl_list (pv 0) (po_some (pe_op op_add (pv 1) pe_int)) po_none)) (pg_name (i := 5) sc_below_cleared.nd rfl (.inr rfl)) (pss_cons (ps_setLc (i := 6) (own := [("k", 7)]) (g := gName 7) (tt := tYes) (te := (tOp (rI CDivNW fun i j => V.int (i.fdiv j)) (tOp (rI0 fun i j => V.int (i - j)) (tOp (rI CMulW fun i j => V.int (i * j)) (tOp (rIxL K) (tVar 3) (tVar 1)) (tOp (rIxL K) (tVar 5) (tVar 7))) (tOp (rI CMulW fun i j => V.int (i * j)) (tOp (rIxL K) (tVar 5) (tVar 1)) (tOp (rIxL K) (tVar 3) (tVar 7)))) (tVar 2))) (by rfl) sc_below_cleared.nd rfl rfl (sw_true rfl rfl rfl (by decide +kernel)) (pi_range2 (by rfl) z.range (pa_cons (pe_op op_add (pv 1) pe_int) (pa_cons (pe_callB call_len_seq (by rfl) z.len PySem.boot_len (pa_cons (pv 5) pa_nil)) pa_nil))) (blkOk_by (own := [("k", 7)]) (N := ["rows", "at", "last", "lead", "done", "row", "tail", "k"]) (sc := defScope s_below_cleared) (by decide +kernel)) (fun _ _ _ _ _ => by exact (pg_name (i := 7) sc_below_cleared.nd rfl (.inl rfl))) (fun _ _ _ _ _ => by exact pts_nil) (fun _ _ _ _ _ => by exact (pe_op op_fdivNW (pe_op op_sub (pe_op op_mulW (pe_ix ix_list (pv 3) (pv 1) (fun _ _ => rfl)) (pe_ix ix_list (pv 5) (pv 7) (fun _ _ => rfl))) (pe_op op_mulW (pe_ix ix_list (pv 5) (pv 1) (fun _ _ => rfl)) (pe_ix ix_list (pv 3) (pv 7) (fun _ _ => rfl)))) (pv 2))))
      (pss_one (ps_expr (pe_bm PySem.F.plainAttrs_list PySem.F.slot_list_append PySem.F.type_list_append mt_append (pv 4) (pa_cons (pe_op op_cat (pe_op op_rep (pe_lst (pa_cons pe_int pa_nil)) (pe_op op_add (pv 1) pe_int)) (pv 6)) pa_nil))))))
      (pss_one (ps_ret (pv 4)))))), ?_⟩
    have mn := FA.mn
    have n10 := FA.n10
    have lw : ws.length = A.length := by rw [hw.1, S.len]
    obtain ⟨bl, L, eb, el, eg, hL⟩ := hw.row (i := k9) (by rw [S.len]; exact hk)
    obtain ⟨wl, _, _, bL⟩ := S.row FA el
    have last0 : last ≠ 0 := fun e => S.lead k9 (Nat.le_refl _) (by rw [← hl, e]; rfl)
    have lastb := FA.last (Nat.le_of_lt hk) hl
    refine ⟨_, rfl, _, rfl, a, ws, (k9 : Nat), .ref bl, rfl, rfl, SqL.of ha, atI_nat eb, ?_⟩
    refine ⟨_, rfl, _, rfl, _, _, rfl, rfl, _, rfl, a, ws, rfl, SqL.of ha, fun D hD => ?_⟩
    rw [show cutV ws none (some (((k9 : Nat) : Int) + 1)) = ws.take (k9 + 1) from cut_to (n := k9 + 1)]
    have s1 := same_new (o := .lst (ws.take (k9 + 1))) hD
    refine ⟨_, rfl, _, rfl, _, _, rfl, rfl, _, rfl, a, ws, rfl, SqL.of (s1 _ _ ha), fun p2 hp2 => ?_⟩
    rw [show cutV ws (some (((k9 : Nat) : Int) + 1)) none = ws.drop (k9 + 1) from cut_from (n := k9 + 1)]
    have s2 := same_new (o := .lst (ws.drop (k9 + 1))) hp2
    have nD : D ≠ p2 := fun e => by
      rw [← e, upd_same] at hp2
      cases hp2
    have rowD : ∀ {v : V} {vs : List V} {ss : List (List Int)}, RwL H vs ss → v ∈ vs → v ≠ .ref D := fun {v vs ss} hr hv e => by
      obtain ⟨i, hi⟩ := List.mem_iff_getElem?.mp hv
      obtain ⟨b, s, e1, _, e2⟩ := hr.get hi
      rw [e] at e1
      cases e1
      rw [hD] at e2
      cases e2
    refine ⟨p2, rfl, ⟨_, SqL.of upd_same⟩, for_list (K := K) (a := p2) (xs := ws.drop (k9 + 1)) (fun i τ G => Same H G ∧ G p2 = some (.lst (ws.drop (k9 + 1))) ∧ ∃ us y5 y6 y7, τ = [some (.ref a), some (.int (k9 : Nat)), some (.int last), some (.ref bl), some (.ref D), y5, y6, y7] ∧ G D = some (.lst us) ∧ (∀ v ∈ us, v ≠ .ref D) ∧ us.length = k9 + 1 + i ∧ RwL G us (rs.take (k9 + 1) ++ ((rs.drop (k9 + 1)).take i).map (newRow L k9 last m))) ⟨s1.trans s2, upd_same, _, none, none, none, rfl, s2 _ _ upd_same, fun v hv => rowD (hw.take (k9 + 1)) hv, by rw [List.length_take]; omega, ?_⟩ (fun i τ G _ hP => SqL.of hP.2.1) (fun i x τ G hx hP => ?_) (fun τ G hP => ?_)⟩
    · rw [List.take_zero, List.map_nil, List.append_nil]
      exact (hw.take _).same (s1.trans s2)
    · obtain ⟨sG, hp, us, y5, y6, y7, rfl, hus, nus, lus, wus⟩ := hP
      obtain ⟨b, r, rfl, hr, hb⟩ := (hw.drop (k9 + 1)).get hx
      have hr2 := hr
      rw [List.getElem?_drop] at hr2
      obtain ⟨wr, li, _, br⟩ := S.row FA hr2
      have hb2 := sG _ _ hb
      have hL2 := sG _ _ hL
      refine ⟨_, rfl, _, _, rfl, rfl, ?_⟩
      refine ⟨_, rfl, b, _, rfl, .inl (SqL.of hb2), ?_⟩
      refine ⟨((k9 + 1 : Nat) : Int), (m : Nat), by rw [List.length_map, wr]; rfl, ⟨by omega, by omega, by omega, by omega⟩, fun D2 hD2 => ?_⟩
      rw [show (((m : Nat) : Int) - ((k9 + 1 : Nat) : Int)).toNat = m - (k9 + 1) by omega]
      refine lc_range (lo := ((k9 + 1 : Nat) : Int)) (n := m - (k9 + 1)) (fun j G2 => Same G G2 ∧ G2 D2 = some (.lst (((List.range' (k9 + 1) j).map fun t => (L.getD k9 0 * r.getD t 0 - r.getD k9 0 * L.getD t 0).fdiv last).map V.int))) ⟨same_new hD2, upd_same⟩ (fun j G2 hj hP2 => ?_) (fun G2 hP2 => ?_)
      · obtain ⟨sG2, hacc⟩ := hP2
        have hb3 := sG2 _ _ hb2
        have hL3 := sG2 _ _ hL2
        rw [show ((k9 + 1 : Nat) : Int) + (j : Int) = ((k9 + 1 + j : Nat) : Int) by omega]
        refine ⟨rfl, ?_⟩
        have ZM : ∀ {x y : Int}, x.natAbs < 2 ^ 3400 → y.natAbs < 2 ^ 3400 → CMulW x y := fun h1 h2 => wide_mul h1 h2 (by decide) (by decide) (by decide)
        refine ⟨_, rfl, _, rfl, bl, _, (k9 : Nat), .int (L.getD k9 0), rfl, rfl, SqL.of hL3, atZ (by omega), ?_⟩
        refine ⟨_, rfl, _, rfl, b, _, ((k9 + 1 + j : Nat) : Int), .int (r.getD (k9 + 1 + j) 0), rfl, rfl, SqL.of hb3, atZ (by omega), _, _, rfl, rfl, ZM (bL.at _) (br.at _), ?_⟩
        refine ⟨_, rfl, _, rfl, b, _, (k9 : Nat), .int (r.getD k9 0), rfl, rfl, SqL.of hb3, atZ (by omega), ?_⟩
        refine ⟨_, rfl, _, rfl, bl, _, ((k9 + 1 + j : Nat) : Int), .int (L.getD (k9 + 1 + j) 0), rfl, rfl, SqL.of hL3, atZ (by omega), _, _, rfl, rfl, ZM (br.at _) (bL.at _), _, _, rfl, rfl, ?_⟩
        refine ⟨_, rfl, _, _, rfl, rfl, wide_divN last0 lastb (by decide) (by decide), _, hacc, ?_, fun c o e => ?_, ?_⟩
        · rw [List.length_map, List.length_map, List.length_range']
          exact small1000 (by omega)
        · rw [upd_ne (ne_of_none e hD2)]
          exact sG2 _ _ e
        · rw [upd_same, List.range'_concat, List.map_append, List.map_append, Nat.one_mul]
          rfl
      · obtain ⟨sG2, hacc⟩ := hP2
        have hus2 := sG2 _ _ hus
        have hp3 := sG2 _ _ hp
        refine ⟨_, rfl, .inl ⟨rfl, _, SqL.of hus2⟩, ?_⟩
        refine ⟨(by show 1 ≤ sizeLine; decide), fun l1 hl1 => ?_⟩
        have s3 := same_new (o := .lst [.int 0]) hl1
        refine ⟨_, rfl, _, _, rfl, rfl, l1, ((k9 + 1 : Nat) : Int), _, rfl, by rfl, upd_same, by omega, by omega, Nat.le_trans (show 1 * ((k9 + 1 : Nat) : Int).toNat ≤ 1000 by omega) (by decide), fun l2 hl2 => ?_⟩
        have eZ : (List.replicate ((k9 + 1 : Nat) : Int).toNat [V.int 0]).flatten = (List.replicate (k9 + 1) (0 : Int)).map V.int := by
          rw [Int.toNat_natCast]
          generalize k9 + 1 = n
          induction n with
          | zero => rfl
          | succ n ih => rw [List.replicate_succ, List.flatten_cons, ih, List.replicate_succ]; rfl
        rw [eZ]
        have s4 := same_new (o := .lst ((List.replicate (k9 + 1) (0 : Int)).map V.int)) hl2
        refine ⟨_, rfl, l2, D2, _, _, rfl, rfl, upd_same, s4 _ _ (s3 _ _ hacc), ?_, fun l3 hl3 => ?_⟩
        · rw [List.length_map, List.length_map, List.length_map, List.length_range', List.length_replicate]
          exact Nat.le_of_lt (small1000 (show k9 + 1 + (m - (k9 + 1)) ≤ 1000 by omega))
        rw [← List.map_append]
        have eN : List.replicate (k9 + 1) (0 : Int) ++ (List.range' (k9 + 1) (m - (k9 + 1))).map (fun t => (L.getD k9 0 * r.getD t 0 - r.getD k9 0 * L.getD t 0).fdiv last) = newRow L k9 last m r := rfl
        rw [eN]
        have s5 := same_new (o := .lst ((newRow L k9 last m r).map V.int)) hl3
        have S5 := (sG2.trans s3).trans (s4.trans s5)
        have hus5 := S5 _ _ hus
        have n3 : l3 ≠ D := fun e => by
          rw [e] at hl3
          rw [s4 _ _ (s3 _ _ hus2)] at hl3
          cases hl3
        refine ⟨D, us, _, rfl, rfl, hus5, small1000 (by omega), fun c o e => ?_, ?_, us ++ [.ref l3], _, _, _, rfl, upd_same, fun v hv => ?_, by rw [List.length_append, lus]; rfl, ?_⟩
        · rw [upd_ne (ne_of_none e hD)]
          exact S5 _ _ (sG _ _ e)
        · rw [upd_ne nD.symm]
          exact S5 _ _ hp
        · rcases List.mem_append.mp hv with h | h
          · exact nus v h
          · rw [List.mem_singleton.mp h]
            exact fun z => n3 (V.ref.inj z)
        · rw [show (rs.drop (k9 + 1)).take (i + 1) = (rs.drop (k9 + 1)).take i ++ [r] by rw [List.take_succ, hr]; rfl, List.map_append, ← List.append_assoc]
          refine RwL.app ((wus.same S5).but hus5 nus SameBut.upd) (RwL.one ?_)
          rw [upd_ne n3]
          exact upd_same
    · obtain ⟨sG, hp, us, y5, y6, y7, rfl, hus, nus, lus, wus⟩ := hP
      refine ⟨_, rfl, k D us G hD sG hus ?_⟩
      have e9 : (rs.drop (k9 + 1)).take (ws.drop (k9 + 1)).length = rs.drop (k9 + 1) := List.take_of_length_le (by rw [List.length_drop, List.length_drop, lw, S.len]; exact Nat.le_refl _)
      rw [e9] at wus
      unfold belowL
      rw [eg]
      exact wus
theorem sc_stepped_above : FnScope ["rows", "last", "at"] ["rows"] (defScope s_stepped_above) := ⟨rfl, rfl, rfl, by decide +kernel, rfl, by decide +kernel, by decide +kernel⟩
theorem ok_stepped_above {f : Addr} {fd : FuncData} (F : Fun K "stepped_above" "stepped_above" s_stepped_above f fd) (z : Zs mg) (c_below_cleared : Cal P w K mg base 1 "below_cleared" ["rows", "at", "last"] spBelow) : FnOk P w K mg base CX0 2 f fd ["rows"] spAbove := by
  refine F.ok sc_stepped_above (fun vs H Q E h => ?_) (fun cdv A outer s H vs Q E hr h => ?_)
  · obtain ⟨a, ws, A, m, rfl, _⟩ := h
    rfl
  · obtain ⟨a, ws, A, m, rfl, ha, hw, FA, k⟩ := h
    refine ⟨_, (pss_cons (ps_set (i := 1) sc_stepped_above.nd rfl (.inl rfl) pe_int)
      (pss_cons (ps_for PassesOwn.never rfl (pi_range1 (by rfl) z.range (pa_cons (pe_callB call_len_seq (by rfl) z.len PySem.boot_len (pa_cons (pv 0) pa_nil)) pa_nil)) (pg_name (i := 2) sc_stepped_above.nd rfl (.inl rfl)) (pss_cons (ps_if (pt_cmpR op_le (pe_ix ix_list (pe_ix ix_list (pv 0) (pv 2) (fun _ _ => rfl)) (pv 2) (fun _ _ => rfl)) pe_int (nomark _)) (pss_one (ps_ret (pe_tup (pa_cons (pv 0) (pa_cons (pv 2) pa_nil))))) pss_nil)
      (pss_cons (ps_set (i := 0) sc_stepped_above.nd rfl (.inl rfl) (pe_cal c_below_cleared hr (pa_cons (pv 0) (pa_cons (pv 2) (pa_cons (pv 1) pa_nil)))))
      (pss_one (ps_set (i := 1) sc_stepped_above.nd rfl (.inl rfl) (pe_ix ix_list (pe_ix ix_list (pv 0) (pv 2) (fun _ _ => rfl)) (pv 2) (fun _ _ => rfl)))))))
      (pss_one (ps_ret (pe_tup (pa_cons (pv 0) (pa_cons (pe_callB call_len_seq (by rfl) z.len PySem.boot_len (pa_cons (pv 0) pa_nil)) pa_nil))))))), ?_⟩
    have lw := hw.1
    have n10 := FA.n10
    have mn := FA.mn
    refine ⟨_, rfl, a, ws, rfl, .inl (SqL.of ha), (ws.length : Nat), rfl, by omega, by omega, ?_⟩
    rw [Int.toNat_natCast, lw]
    refine for_range (lo := 0) (n := A.length) (fun j τ G => Same H G ∧ ∃ (b : Addr) (us : List V) (rs : List (List Int)) (last : Int) (y2 : Option V), τ = [some (.ref b), some (.int last), y2] ∧ G b = some (.lst us) ∧ RwL G us rs ∧ Stg A rs m id j ∧ (last : Rat) = dd (cA A id) j ∧ ∀ i, i < j → 0 < en rs i i) ⟨fun _ _ h => h, a, ws, A, 1, none, rfl, ha, hw, Stg.start FA.wid, rfl, fun i h => absurd h (Nat.not_lt_zero i)⟩ (fun j τ G hj hP => ?_) (fun τ G hP => ?_)
    · obtain ⟨sG, b, us, rs, last, y2, rfl, hb, hu, S, hl, up0⟩ := hP
      rw [Int.zero_add]
      obtain ⟨c, r, f1, f2, f3, f4⟩ := hu.row (i := j) (by rw [S.len]; exact hj)
      have wr := S.wid r (List.mem_of_getElem? f2)
      refine ⟨_, rfl, _, rfl, b, us, _, .ref c, rfl, rfl, SqL.of hb, atI_nat f1, ?_⟩
      refine ⟨_, rfl, c, _, _, .int (r.getD j 0), rfl, rfl, SqL.of f4, atZ (by omega), _, _, rfl, rfl, _, rfl, ite2 (fun c1 => ?_) (fun c1 => ?_)⟩
      · have c2 : en rs j j ≤ 0 := by
          rw [en_at f2]
          exact toB c1
        refine ⟨_, rfl, _, rfl, (by show 2 ≤ sizeLine; decide), fun p hp => ?_⟩
        have s2 := same_new (o := .tup [.ref b, .int (j : Nat)]) hp
        exact k p b us rs j _ (sG.trans s2) upd_same (s2 _ _ hb) (hu.same s2) ⟨S, up0, .inr ⟨hj, c2⟩⟩
      · have c2 : 0 < en rs j j := by
          rw [en_at f2]
          exact Int.not_le.mp (toNB c1)
        refine ⟨_, rfl, _, rfl, _, rfl, b, us, A, rs, m, _, j, last, rfl, hb, hu, S, FA, hj, hl, fun p2 us2 G2 hp2 s2 e2 hu2 => ?_⟩
        obtain ⟨M, M1, M2, _⟩ := FA.bd
        have S2 := S.step M2 hj (by omega) hl (by omega)
        obtain ⟨c', r', g1, g2, g3, g4⟩ := hu2.row (i := j) (by rw [S2.len]; exact hj)
        have wr' := S2.wid r' (List.mem_of_getElem? g2)
        refine ⟨_, rfl, _, rfl, p2, us2, _, .ref c', rfl, rfl, SqL.of e2, atI_nat g1, ?_⟩
        refine ⟨_, rfl, c', _, _, .int (r'.getD j 0), rfl, rfl, SqL.of g4, atZ (by omega), ?_⟩
        have old : ∀ i, i ≤ j → en (belowL rs j last m) i i = en rs i i := fun i hi => by
          have a1 := S2.val i i (by omega) (by omega)
          have a2 := S.val i i (by omega) (by omega)
          rw [Nat.min_eq_left (by omega)] at a1 a2
          exact Rat.intCast_inj.mp (by rw [a1, a2])
        refine ⟨sG.trans s2, p2, us2, _, _, _, rfl, e2, hu2, S2, ?_, fun i hi => ?_⟩
        · rw [← en_at g2, S2.val j j hj (by omega), Nat.min_eq_left (Nat.le_succ j), dd_succ]
        · rw [old i (by omega)]
          by_cases c3 : i = j
          · rw [c3]
            exact c2
          · exact up0 i (by omega)
    · obtain ⟨sG, b, us, rs, last, y2, rfl, hb, hu, S, hl, up0⟩ := hP
      refine ⟨_, rfl, _, rfl, b, us, rfl, .inl (SqL.of hb), (by show 2 ≤ sizeLine; decide), fun p hp => ?_⟩
      rw [hu.1, S.len]
      have s2 := same_new (o := .tup [.ref b, .int (A.length : Nat)]) hp
      exact k p b us rs A.length _ (sG.trans s2) upd_same (s2 _ _ hb) (hu.same s2) ⟨S, up0, .inl rfl⟩
end
end E1

namespace E1
open PySem PySem.Spec PyProof.Rows L2

theorem cut_mid {vs : List V} {f u : Nat} (h : f ≤ u) (hu : u ≤ vs.length) : cutV vs (some (f : Int)) (some (u : Int)) = (vs.drop f).take (u - f) := by
  unfold cutV
  rw [HT.sIx_nat, HT.sIx_nat, Nat.min_eq_left hu, Nat.min_eq_left (Nat.le_trans h hu)]
theorem dotZ_sg : ∀ (xs ys : List Int) (n : Nat) (f : Nat → Rat), xs.length = n → ys.length = n → (∀ s, s < n → ((xs.getD s 0 : Int) : Rat) * ((ys.getD s 0 : Int) : Rat) = f s) → ((dotZ xs ys : Int) : Rat) = sg f n
  | [], ys, n, f, hx, hy, h => by
    cases hx
    cases ys with
    | nil => rfl
    | cons y ys => cases hy
  | x :: xs, [], n, f, hx, hy, h => by
    cases hy
    cases hx
  | x :: xs, y :: ys, n, f, hx, hy, h => by
    obtain ⟨k, rfl⟩ : ∃ k, n = k + 1 := ⟨xs.length, hx.symm⟩
    rw [sg_first]
    show ((x * y + dotZ xs ys : Int) : Rat) = _
    rw [Rat.intCast_add, Rat.intCast_mul, dotZ_sg xs ys k (fun i => f (i + 1)) (Nat.succ.inj hx) (Nat.succ.inj hy) fun s hs => h (s + 1) (by omega)]
    rw [← h 0 (by omega)]
    rfl
/-- the tops of Cramer's rule -/
def tau (P : Nat → Nat → Rat) (k t : Nat) : Int := (tp P k k t).num
def madeR (P : Nat → Nat → Rat) (k : Nat) : List Rat := (List.range k).map fun t => tp P k k t / dd P k
theorem madeR_len (P : Nat → Nat → Rat) (k : Nat) : (madeR P k).length = k := by
  unfold madeR
  rw [List.length_map, List.length_range]
theorem Fine.tops {A : List (List Int)} {m : Nat} (F : Fine A m) {k : Nat} (hk : k ≤ A.length) (σ : Nat → Nat) (t : Nat) : tp (cA A σ) k k t = (tau (cA A σ) k t : Rat) ∧ (tau (cA A σ) k t).natAbs < 2 ^ 3400 := by
  obtain ⟨M, h1, h2, h3⟩ := F.lt
  obtain ⟨z, e, b⟩ := tp_wh (cA_wh h2 σ) k k t
  unfold tau
  rw [e]
  exact ⟨rfl, h3 k _ (by omega) (Nat.le_trans b (Nat.mul_le_mul_right _ (by omega)))⟩
theorem Stg.back {A rs : List (List Int)} {m : Nat} {σ : Nat → Nat} {k i s : Nat} {r : List Int} {B : Int} (S : Stg A rs m σ k) (F : Fine A m) (km : k < m) (hB : (B : Rat) = dd (cA A σ) k) (his : i + 1 + s = k) (hr : rs[i]? = some r) :
    (B * r.getD k 0 - dotZ ((r.drop (i + 1)).take s) ((List.range' (i + 1) s).map (tau (cA A σ) k))).fdiv (r.getD i 0) = tau (cA A σ) k i := by
  obtain ⟨wr, li, er, _⟩ := S.row F hr
  have kn : k ≤ A.length := S.kle
  have b := back_one (j0 := k) S.lead his
  have v : ∀ j, j < m → ((r.getD j 0 : Int) : Rat) = bb (cA A σ) i (cA A σ i) j := fun j hj => by
    rw [← er, S.val i j li hj, Nat.min_eq_left (by omega)]
  have dz := dotZ_sg ((r.drop (i + 1)).take s) ((List.range' (i + 1) s).map (tau (cA A σ) k)) s (fun s => bb (cA A σ) i (cA A σ i) (i + 1 + s) * tp (cA A σ) k k (i + 1 + s)) (by rw [List.length_take, List.length_drop]; omega) (by rw [List.length_map, List.length_range']) fun t ht => by
    rw [← v _ (by omega), (F.tops kn σ _).1]
    congr 2
    · rw [List.getD_eq_getElem?_getD, List.getElem?_take, if_pos ht, List.getElem?_drop, List.getD_eq_getElem?_getD]
    · rw [List.getD_eq_getElem?_getD, List.getElem?_map, List.getElem?_range' ht, Nat.one_mul]
      rfl
  rw [← dz, ← v i (by omega), ← v k km, ← hB, (F.tops kn σ i).1] at b
  have b2 : r.getD i 0 * tau (cA A σ) k i = B * r.getD k 0 - dotZ ((r.drop (i + 1)).take s) ((List.range' (i + 1) s).map (tau (cA A σ) k)) := by
    have : ((r.getD i 0 * tau (cA A σ) k i : Int) : Rat) = ((B * r.getD k 0 - dotZ ((r.drop (i + 1)).take s) ((List.range' (i + 1) s).map (tau (cA A σ) k)) : Int) : Rat) := by
      rw [Rat.intCast_mul, Rat.intCast_sub, Rat.intCast_mul]
      exact b
    exact Rat.intCast_inj.mp this
  have n0 : r.getD i 0 ≠ 0 := fun e => by
    have := S.lead (i + 1) (by omega)
    rw [dd_succ, ← v i (by omega), e] at this
    exact this rfl
  rw [← b2, Int.mul_fdiv_cancel_left _ n0]
def spMade : Sp := fun vs H Q _ => ∃ (a : Addr) (us : List V) (A rs : List (List Int)) (m : Nat) (σ : Nat → Nat) (k : Nat), vs = [.ref a, .int (k : Nat)] ∧ H a = some (.lst us) ∧ RwL H us rs ∧ Stg A rs m σ k ∧ Fine A m ∧ k < m ∧ ∀ p H', H p = none → Same H H' → FrL H' p (madeR (cA A σ) k) → Q (.ref p) H'
/-- fractions, of which some may be the module's own -/
def FrsK (K : PySem.W.Frag) (H : Hp) (vs : List V) (qs : List Rat) : Prop := vs.length = qs.length ∧ ∀ (i : Nat) (q : Rat), qs[i]? = some q → ∃ p, vs[i]? = some (.ref p) ∧ SqT K H p [.int q.num, .int (q.den : Int)]
theorem sqT_same {K : PySem.W.Frag} {H H' : Hp} {a : Addr} {xs : List V} (h : SqT K H a xs) (e : Same H H') : SqT K H' a xs := by
  rcases h with (h | ⟨o, h⟩) | h
  · exact .inl (.inl (e _ _ h))
  · exact .inl (.inr ⟨o, e _ _ h⟩)
  · exact .inr h
def FrLK (K : PySem.W.Frag) (H : Hp) (a : Addr) (qs : List Rat) : Prop := ∃ vs, H a = some (.lst vs) ∧ FrsK K H vs qs
theorem FrL.k {K : PySem.W.Frag} {H : Hp} {a : Addr} {qs : List Rat} (h : FrL H a qs) : FrLK K H a qs := by
  obtain ⟨vs, e, r⟩ := h
  exact ⟨vs, e, FrsAt.len r, fun i q hq => let ⟨p, h1, h2⟩ := FrsAt.at r hq; ⟨p, h1, SqT.of h2⟩⟩
theorem FrsK.get {K : PySem.W.Frag} {H : Hp} {vs : List V} {qs : List Rat} (h : FrsK K H vs qs) {i : Nat} {v : V} (e : vs[i]? = some v) : ∃ p q, v = .ref p ∧ qs[i]? = some q ∧ SqT K H p [.int q.num, .int (q.den : Int)] := by
  have hi := (List.getElem?_eq_some_iff.mp e).1
  have e2 : qs[i]? = some (qs[i]'(by rw [← h.1]; exact hi)) := List.getElem?_eq_getElem _
  obtain ⟨p, e3, f⟩ := h.2 i _ e2
  rw [e] at e3
  cases e3
  exact ⟨p, _, rfl, e2, f⟩
theorem FrsK.same {K : PySem.W.Frag} {H H' : Hp} {vs : List V} {qs : List Rat} (h : FrsK K H vs qs) (s : Same H H') : FrsK K H' vs qs := ⟨h.1, fun i q e => let ⟨p, e1, f⟩ := h.2 i q e; ⟨p, e1, sqT_same f s⟩⟩
theorem FrLK.same {K : PySem.W.Frag} {H H' : Hp} {a : Addr} {qs : List Rat} (h : FrLK K H a qs) (s : Same H H') : FrLK K H' a qs := let ⟨vs, e, f⟩ := h; ⟨vs, s _ _ e, f.same s⟩
theorem FrsK.app {K : PySem.W.Frag} {H : Hp} {vs us : List V} {ss ts : List Rat} (h : FrsK K H vs ss) (g : FrsK K H us ts) : FrsK K H (vs ++ us) (ss ++ ts) := by
  refine ⟨by rw [List.length_append, List.length_append, h.1, g.1], fun i s e => ?_⟩
  by_cases c : i < ss.length
  · rw [List.getElem?_append_left c] at e
    rw [List.getElem?_append_left (by rw [h.1]; exact c)]
    exact h.2 i s e
  · rw [List.getElem?_append_right (by omega)] at e
    rw [List.getElem?_append_right (by rw [h.1]; omega), h.1]
    exact g.2 _ s e
theorem FrsK.rep {K : PySem.W.Frag} {H : Hp} {p : Addr} {q : Rat} (h : SqT K H p [.int q.num, .int (q.den : Int)]) (n : Nat) : FrsK K H (List.replicate n (.ref p)) (List.replicate n q) := by
  refine ⟨by rw [List.length_replicate, List.length_replicate], fun i r e => ?_⟩
  rw [List.getElem?_replicate] at e ⊢
  split at e
  · rw [if_pos (by assumption)]
    cases e
    exact ⟨p, rfl, h⟩
  · cases e
def cancR (P : Nat → Nat → Rat) (k n : Nat) : List Rat := (madeR P k).map (fun q => -q) ++ [1] ++ List.replicate (n - k - 1) 0
def spCanc (K : PySem.W.Frag) : Sp := fun vs H Q _ => ∃ (a : Addr) (us : List V) (A rs : List (List Int)) (m : Nat) (σ : Nat → Nat) (k n : Nat), vs = [.ref a, .int (k : Nat), .int (n : Nat)] ∧ H a = some (.lst us) ∧ RwL H us rs ∧ Stg A rs m σ k ∧ Fine A m ∧ n = A.length ∧ k < n ∧ n ≤ 10 ∧ ∀ p H', H p = none → Same H H' → FrLK K H' p (cancR (cA A σ) k n) → Q (.ref p) H'
section
variable {P : Program} {w : World} {K : PySem.W.Frag} {mg : Str → Option Value} {base : Heap}
theorem sc_made_up : FnScope ["rows", "at", "bottom", "tops", "number", "row", "known", "top"] ["rows", "at"] (defScope s_made_up) := ⟨rfl, rfl, rfl, by decide +kernel, rfl, by decide +kernel, by decide +kernel⟩
theorem ok_made_up {f : Addr} {fd : FuncData} (F : Fun K "made_up" "made_up" s_made_up f fd) (z : Zs mg) (c_dot : Cal P w K mg base 1 "dot" ["numbers", "others"] spDot) (c_lowest : Cal P w K mg base 2 "lowest" ["top", "bottom"] spLow) : FnOk P w K mg base CX0 3 f fd ["rows", "at"] spMade := by
  refine F.ok sc_made_up (fun vs H Q E h => ?_) (fun cdv A outer s H vs Q E hr h => ?_)
  · obtain ⟨a, us, A, rs, m, σ, k, rfl, _⟩ := h
    rfl
  · obtain ⟨a, us, A, rs, m, σ, k9, rfl, ha, hu, S, FA, km9, k⟩ := h
    refine ⟨_, (pss_cons (ps_if (pt_cmpR op_eq (pv 1) pe_int (nomark _)) (pss_one (ps_ret (pe_lst pa_nil))) pss_nil)
      (pss_cons (ps_set (i := 2) sc_made_up.nd rfl (.inr rfl) (pe_ix ix_list (pe_ix ix_list (pv 0) (pe_op op_sub (pv 1) pe_int) (fun _ _ => rfl)) (pe_op op_sub (pv 1) pe_int) (fun _ _ => rfl)))
      (pss_cons (ps_set (i := 3) sc_made_up.nd rfl (.inl rfl) (pe_lst pa_nil))
      (pss_cons (ps_for PassesOwn.never rfl (pi_revR (by rfl) z.reversed (prg_1 (by rfl) z.range (pv 1))) (pg_name (i := 4) sc_made_up.nd rfl (.inl rfl)) (pss_cons (ps_set (i := 5) sc_made_up.nd rfl (.inl rfl) (pe_ix ix_list (pv 0) (pv 4) (fun _ _ => rfl)))
      (pss_cons (ps_set (i := 6) sc_made_up.nd rfl (.inl rfl) (pe_cal c_dot hr (pa_cons (pe_slice sl_list (pv 5) (po_some (pe_op op_add (pv 4) pe_int)) (po_some (pv 1))) (pa_cons (pv 3) pa_nil))))
      (pss_one (ps_set (i := 3) sc_made_up.nd rfl (.inl rfl) (pe_lst (pa_cons (pe_op op_fdivNW (pe_op op_sub (pe_op op_mulW (pv 2) (pe_ix ix_list (pv 5) (pv 1) (fun _ _ => rfl))) (pv 6)) (pe_ix ix_list (pv 5) (pv 4) (fun _ _ => rfl))) (StX.pa_star (pv 3) pa_nil))))))))
      (pss_one (ps_ret (pe_lc (own := [("top", 7)]) (g := gName 7) (tt := tYes) (te := (tCall spLow [] E0 (tCons (tVar 7) (tCons (tVar 2) tNil)))) (by rfl) sc_made_up.nd (pi_list (pv 3)) (blkOk_by (own := [("top", 7)]) (N := ["rows", "at", "bottom", "tops", "number", "row", "known", "top"]) (sc := defScope s_made_up) (by decide +kernel)) (fun _ _ _ _ _ => by exact (pg_name (i := 7) sc_made_up.nd rfl (.inl rfl))) (fun _ _ _ _ _ => by exact pts_nil) (fun _ _ _ _ _ => by exact (pe_cal c_lowest hr (pa_cons (pv 7) (pa_cons (pv 2) pa_nil))))))))))), ?_⟩
    have mn := FA.mn
    have n10 := FA.n10
    have kn := S.kle
    have lu : us.length = A.length := by rw [hu.1, S.len]
    refine ⟨_, rfl, rfl, _, rfl, ite2 (fun c => ?_) (fun c => ?_)⟩
    · have k0 : k9 = 0 := by
        have := V.int.inj (of_decide_eq_true c)
        omega
      subst k0
      exact ⟨(by show 0 ≤ sizeLine; decide), fun p hp => k p _ hp (same_new hp) ⟨[], upd_same, .nil⟩⟩
    · obtain ⟨k8, rfl⟩ : ∃ k8, k9 = k8 + 1 := ⟨k9 - 1, by
        have : k9 ≠ 0 := fun e => c (decide_eq_true (by rw [e]; rfl))
        omega⟩
      obtain ⟨b, r, e1, e2, e3, e4⟩ := hu.row (i := k8) (by rw [S.len]; omega)
      obtain ⟨wr, _, er, br⟩ := S.row FA e2
      have ek : ((k8 + 1 : Nat) : Int) - 1 = (k8 : Nat) := by omega
      refine ⟨_, rfl, _, rfl, _, _, rfl, rfl, a, us, _, .ref b, rfl, rfl, SqL.of ha, (by rw [ek]; exact atI_nat e1), ?_⟩
      refine ⟨_, rfl, _, _, rfl, rfl, b, _, _, .int (r.getD k8 0), rfl, rfl, SqL.of e4, (by rw [ek]; exact atZ (by omega)), ?_⟩
      have hB : ((r.getD k8 0 : Int) : Rat) = dd (cA A σ) (k8 + 1) := by
        rw [← er, S.val k8 k8 (by omega) (by omega), Nat.min_eq_left (Nat.le_succ k8), dd_succ]
      have B0 : r.getD k8 0 ≠ 0 := fun e => S.lead (k8 + 1) (Nat.le_refl _) (by rw [← hB, e]; rfl)
      have Bb := br.at k8
      generalize r.getD k8 0 = B at *
      refine ⟨(by show 0 ≤ sizeLine; decide), fun l0 hl0 => ?_⟩
      have s1 := same_new (o := .lst []) hl0
      refine ⟨_, rfl, _, rfl, by omega, by omega, by omega, by omega, ?_⟩
      have en9 : (((k8 + 1 : Nat) : Int) - 0).toNat = k8 + 1 := by omega
      rw [en9]
      refine for_rangeC (lo := 0 + (((k8 + 1 : Nat)) : Int) - 1) (c := -1) (n := k8 + 1) (fun j τ G => Same H G ∧ ∃ (L : Addr) (y4 y5 y6 : Option V), τ = [some (.ref a), some (.int (k8 + 1 : Nat)), some (.int B), some (.ref L), y4, y5, y6, none] ∧ G L = some (.lst (((List.range' (k8 + 1 - j) j).map (tau (cA A σ) (k8 + 1))).map V.int))) ⟨s1, l0, none, none, none, rfl, upd_same⟩ (fun j τ G hj hP => ?_) (fun τ G hP => ?_)
      · obtain ⟨sG, L, y4, y5, y6, rfl, hL⟩ := hP
        have ei : 0 + (((k8 + 1 : Nat)) : Int) - 1 + ((j : Nat) : Int) * (-1) = ((k8 - j : Nat) : Int) := by omega
        rw [ei]
        obtain ⟨c, r2, f1, f2, f3, f4⟩ := hu.row (i := k8 - j) (by rw [S.len]; omega)
        obtain ⟨w2, _, er2, b2⟩ := S.row FA f2
        have f5 := sG _ _ f4
        refine ⟨_, rfl, _, rfl, a, us, _, .ref c, rfl, rfl, SqL.of (sG _ _ ha), atI_nat f1, ?_⟩
        refine ⟨_, rfl, _, rfl, _, _, rfl, rfl, _, rfl, _, rfl, _, rfl, c, _, rfl, SqL.of f5, fun p1 hp1 => ?_⟩
        rw [show cutV (r2.map V.int) (some (((k8 - j : Nat) : Int) + 1)) (some ((k8 + 1 : Nat) : Int)) = ((r2.drop (k8 - j + 1)).take j).map V.int by
          rw [show ((k8 - j : Nat) : Int) + 1 = ((k8 - j + 1 : Nat) : Int) by omega, cut_mid (by omega) (by rw [List.length_map]; omega), List.map_take, List.map_drop, show k8 + 1 - (k8 - j + 1) = j by omega]]
        have s2 := same_new (o := .lst (((r2.drop (k8 - j + 1)).take j).map V.int)) hp1
        have bk := S.back FA (by omega) hB (i := k8 - j) (s := j) (by omega) f2
        have tb : Bits 4000 ((List.range' (k8 - j + 1) j).map (tau (cA A σ) (k8 + 1))) := fun x hx => by
          obtain ⟨t, _, rfl⟩ := List.mem_map.mp hx
          exact up (FA.tops kn σ t).2 (by decide)
        have rb : Bits 4000 ((r2.drop (k8 - j + 1)).take j) := fun x hx => up (b2 x (List.mem_of_mem_drop (List.mem_of_mem_take hx))) (by decide)
        rw [show k8 + 1 - j = k8 - j + 1 by omega] at hL
        refine ⟨_, rfl, p1, L, _, _, rfl, upd_same, s2 _ _ hL, by rw [List.length_take]; omega, rb, tb, fun G2 s3 => ?_⟩
        have f6 := s3 _ _ (s2 _ _ f5)
        have hL3 := s3 _ _ (s2 _ _ hL)
        refine ⟨_, rfl, _, rfl, _, rfl, c, _, _, .int (r2.getD (k8 + 1) 0), rfl, rfl, SqL.of f6, atZ (by omega), _, _, rfl, rfl, wide_mul Bb (b2.at _) (by decide) (by decide) (by decide), ?_⟩
        refine ⟨_, rfl, _, _, rfl, rfl, ?_⟩
        have n0 : r2.getD (k8 - j) 0 ≠ 0 := fun e => by
          have := S.lead (k8 - j + 1) (by omega)
          rw [dd_succ] at this
          have v := S.val (k8 - j) (k8 - j) (by omega) (by omega)
          rw [Nat.min_eq_left (by omega), er2, e] at v
          rw [← v] at this
          exact this rfl
        refine ⟨_, rfl, _, rfl, c, _, _, .int (r2.getD (k8 - j) 0), rfl, rfl, SqL.of f6, atZ (by omega), _, _, rfl, rfl, wide_divN n0 (b2.at _) (by decide) (by decide), ?_⟩
        refine ⟨_, rfl, L, _, rfl, .inr (SqL.of hL3), ?_, fun p2 hp2 => ?_⟩
        · rw [List.append_nil]
          show _ + 1 ≤ sizeLine
          rw [List.length_map, List.length_map, List.length_range']
          exact Nat.le_of_lt (small1000 (show j + 1 ≤ 1000 by omega))
        · refine ⟨(sG.trans s2).trans (s3.trans (same_new hp2)), p2, _, _, _, rfl, ?_⟩
          refine (upd_same).trans ?_
          show some (HO.lst (V.int ((B * r2.getD (k8 + 1) 0 - dotZ ((r2.drop (k8 - j + 1)).take j) ((List.range' (k8 - j + 1) j).map (tau (cA A σ) (k8 + 1)))).fdiv (r2.getD (k8 - j) 0)) :: (((List.range' (k8 - j + 1) j).map (tau (cA A σ) (k8 + 1))).map V.int ++ []))) = _
          rw [bk, List.append_nil, show k8 + 1 - (j + 1) = k8 - j by omega, List.range'_succ]
          rfl
      · obtain ⟨sG, L, y4, y5, y6, rfl, hL⟩ := hP
        rw [show k8 + 1 - (k8 + 1) = 0 by omega] at hL
        refine ⟨_, rfl, L, rfl, ⟨_, SqL.of hL⟩, fun D hD => lc_list (K := K) (a := L) (xs := ((List.range' 0 (k8 + 1)).map (tau (cA A σ) (k8 + 1))).map V.int) (fun i G2 => Same G G2 ∧ FrL G2 D ((List.range i).map fun t => tp (cA A σ) (k8 + 1) (k8 + 1) t / dd (cA A σ) (k8 + 1))) ⟨same_new hD, [], upd_same, .nil⟩ (fun i G2 _ hP => SqL.of (hP.1 _ _ hL)) (fun i x G2 hx hP => ?_) (fun G2 hP => ?_)⟩
        · obtain ⟨sG2, vs, hacc, fv⟩ := hP
          have lt := (List.getElem?_eq_some_iff.mp hx).1
          rw [List.length_map, List.length_map, List.length_range'] at lt
          rw [List.getElem?_map, List.getElem?_map, List.getElem?_range' lt, Nat.one_mul, Nat.zero_add] at hx
          cases hx
          refine ⟨rfl, _, rfl, _, rfl, _, _, rfl, B0, up Bb (by decide), fun p hp => ?_⟩
          have s2 := same_new (o := .tup [.int (lowT (tau (cA A σ) (k8 + 1) i) B), .int (lowB (tau (cA A σ) (k8 + 1) i) B)]) hp
          have nD : p ≠ D := fun e => by
            rw [e, hacc] at hp
            cases hp
          have lv := FrsAt.len fv
          rw [List.length_map, List.length_range] at lv
          have fp : Fr (upd G2 p (.tup [.int (lowT (tau (cA A σ) (k8 + 1) i) B), .int (lowB (tau (cA A σ) (k8 + 1) i) B)])) p (tp (cA A σ) (k8 + 1) (k8 + 1) i / dd (cA A σ) (k8 + 1)) := Fr.low B0 (by rw [(FA.tops kn σ i).1, ← hB, Rat.divInt_eq_div]) upd_same
          refine ⟨_, s2 _ _ hacc, small1000 (by omega), fun b o e => ?_, vs ++ [.ref p], upd_same, ?_⟩
          · rw [upd_ne (ne_of_none e hD)]
            exact s2 _ _ (sG2 _ _ e)
          · rw [List.range_succ, List.map_append]
            refine FrsAt.app (PrsAt.but (PrsAt.same fv s2) SameBut.upd (s2 _ _ hacc)) (FrsAt.one ?_)
            show (upd (upd G2 p _) D _) p = _
            rw [upd_ne nD]
            exact fp
        · obtain ⟨sG2, fD⟩ := hP
          rw [List.length_map, List.length_map, List.length_range'] at fD
          exact k D G2 (sG.free hD) (sG.trans sG2) fD
theorem sc_cancelled : FnScope ["rows", "at", "many", "made", "top", "bottom"] ["rows", "at", "many"] (defScope s_cancelled) := ⟨rfl, rfl, rfl, by decide +kernel, rfl, by decide +kernel, by decide +kernel⟩
theorem ok_cancelled {f : Addr} {fd : FuncData} (F : Fun K "cancelled" "cancelled" s_cancelled f fd) (z : Zs mg) {AO AN : Addr} (g_ONE : mg "ONE" = some (.ref AO)) (tO : ∀ H, SqT K H AO [.int 1, .int 1]) (g_NOUGHT : mg "NOUGHT" = some (.ref AN)) (tN : ∀ H, SqT K H AN [.int 0, .int 1]) (c_made_up : Cal P w K mg base 3 "made_up" ["rows", "at"] spMade) : FnOk P w K mg base CX0 4 f fd ["rows", "at", "many"] (spCanc K) := by
  refine F.ok sc_cancelled (fun vs H Q E h => ?_) (fun cdv A outer s H vs Q E hr h => ?_)
  · obtain ⟨a, us, A, rs, m, σ, k, n, rfl, _⟩ := h
    rfl
  · obtain ⟨a, us, A, rs, m, σ, k9, n, rfl, ha, hu, S, FA, hnA, hkn, hn, k⟩ := h
    refine ⟨_, (pss_cons (ps_setLc (i := 3) (own := [("top", 4), ("bottom", 5)]) (g := gTup K 2 (gCons (gName 4) (gCons (gName 5) gNil))) (tt := tYes) (te := (tTup (tCons (tUn (rU fun i => V.int (-i)) (tVar 4)) (tCons (tVar 5) tNil)))) (by rfl) sc_cancelled.nd rfl rfl (sw_true rfl rfl rfl (by decide +kernel)) (pi_list (pe_cal c_made_up hr (pa_cons (pv 0) (pa_cons (pv 1) pa_nil)))) (blkOk_by (own := [("top", 4), ("bottom", 5)]) (N := ["rows", "at", "many", "made", "top", "bottom"]) (sc := defScope s_cancelled) (by decide +kernel)) (fun _ _ _ _ _ => by exact (pg_tup (by rfl) (pgs_cons (pg_name (i := 4) sc_cancelled.nd rfl (.inl rfl)) (pgs_cons (pg_name (i := 5) sc_cancelled.nd rfl (.inl rfl)) pgs_nil)))) (fun _ _ _ _ _ => by exact pts_nil) (fun _ _ _ _ _ => by exact (pe_tup (pa_cons (pe_un un_neg (pv 4)) (pa_cons (pv 5) pa_nil)))))
      (pss_one (ps_ret (pe_op op_cat (pe_op op_cat (pv 3) (pe_lst (pa_cons (pe_glob (v := .ref AO) (by rfl) g_ONE rfl) pa_nil))) (pe_op op_rep (pe_lst (pa_cons (pe_glob (v := .ref AN) (by rfl) g_NOUGHT rfl) pa_nil)) (pe_op op_sub (pe_op op_sub (pv 2) (pv 1)) pe_int)))))), ?_⟩
    refine ⟨_, rfl, _, rfl, a, us, A, rs, m, σ, k9, rfl, ha, hu, S, FA, by have := S.kle; have := FA.mn; omega, fun p0 G0 hp0 s0 f0 => ?_⟩
    obtain ⟨vs, hv0, lv, hv⟩ := f0.len
    rw [madeR_len] at lv
    refine ⟨p0, rfl, ⟨_, SqL.of hv0⟩, fun D hD => lc_list (K := K) (a := p0) (xs := vs) (fun i G => Same G0 G ∧ FrL G D (((madeR (cA A σ) k9).take i).map fun q => -q)) ⟨same_new hD, [], upd_same, .nil⟩ (fun i G _ hP => SqL.of (hP.1 _ _ hv0)) (fun i x G hx hP => ?_) (fun G hP => ?_)⟩
    · obtain ⟨sG, us2, hacc, fv⟩ := hP
      obtain ⟨p, r, rfl, hr2, fp⟩ := FrsAt.get hv hx
      have li := (List.getElem?_eq_some_iff.mp hr2).1
      rw [madeR_len] at li
      refine ⟨p, _, rfl, SqT.of (sG _ _ fp), rfl, _, _, rfl, _, _, rfl, rfl, rfl, ?_⟩
      refine ⟨_, rfl, _, rfl, _, rfl, (by show 2 ≤ sizeLine; decide), fun t ht => ?_⟩
      have s2 := same_new (o := .tup [.int (-r.num), .int (r.den : Int)]) ht
      have nD : t ≠ D := fun e => by
        rw [e, hacc] at ht
        cases ht
      have l2 := FrsAt.len fv
      rw [List.length_map, List.length_take, madeR_len] at l2
      refine ⟨_, s2 _ _ hacc, small1000 (by omega), fun b o e => ?_, us2 ++ [.ref t], upd_same, ?_⟩
      · rw [upd_ne (ne_of_none e hD)]
        exact s2 _ _ (sG _ _ e)
      · rw [show (madeR (cA A σ) k9).take (i + 1) = (madeR (cA A σ) k9).take i ++ [r] by rw [List.take_succ, hr2]; rfl, List.map_append]
        refine FrsAt.app (PrsAt.but (PrsAt.same fv s2) SameBut.upd (s2 _ _ hacc)) (FrsAt.one ?_)
        show (upd (upd G t _) D _) t = some (.tup [.int (-r).num, .int ((-r).den : Int)])
        rw [upd_ne nD, upd_same, Rat.neg_num, Rat.neg_den]
    · obtain ⟨sG, us2, hacc, fv⟩ := hP
      rw [List.take_of_length_le (by rw [madeR_len, lv]; exact Nat.le_refl _)] at fv
      have l2 := FrsAt.len fv
      rw [List.length_map, madeR_len] at l2
      have SG := s0.trans sG
      refine ⟨_, rfl, (by show 1 ≤ sizeLine; decide), fun l1 hl1 => ?_⟩
      have s1 := same_new (o := .lst [.ref AO]) hl1
      refine ⟨D, l1, us2, _, rfl, rfl, s1 _ _ hacc, upd_same, ?_, fun l2 hl2 => ?_⟩
      · exact Nat.le_of_lt (small1000 (show us2.length + 1 ≤ 1000 by omega))
      have s2 := same_new (o := .lst (us2 ++ [.ref AO])) hl2
      refine ⟨(by show 1 ≤ sizeLine; decide), fun l3 hl3 => ?_⟩
      have s3 := same_new (o := .lst [.ref AN]) hl3
      refine ⟨_, rfl, _, rfl, _, _, rfl, rfl, _, _, rfl, rfl, l3, ((n - k9 - 1 : Nat) : Int), [.ref AN], rfl, ?_, upd_same, by omega, by omega, Nat.le_trans (show 1 * ((n - k9 - 1 : Nat) : Int).toNat ≤ 1000 by omega) (by decide), fun l4 hl4 => ?_⟩
      · show V.int (((n : Nat) : Int) - ((k9 : Nat) : Int) - 1) = _
        rw [show ((n : Nat) : Int) - ((k9 : Nat) : Int) - 1 = ((n - k9 - 1 : Nat) : Int) by omega]
      have eL : (List.replicate ((n - k9 - 1 : Nat) : Int).toNat [V.ref AN]).flatten = List.replicate (n - k9 - 1) (V.ref AN) := by
        rw [Int.toNat_natCast]
        generalize n - k9 - 1 = n
        induction n with
        | zero => rfl
        | succ n ih => rw [List.replicate_succ, List.flatten_cons, ih]; rfl
      rw [eL]
      have s4 := same_new (o := .lst (List.replicate (n - k9 - 1) (V.ref AN))) hl4
      refine ⟨l2, l4, _, _, rfl, rfl, s4 _ _ (s3 _ _ upd_same), upd_same, ?_, fun p hp => ?_⟩
      · rw [List.length_append, List.length_replicate]
        exact Nat.le_of_lt (small1000 (show us2.length + 1 + (n - k9 - 1) ≤ 1000 by omega))
      have s5 := same_new (o := .lst (us2 ++ [.ref AO] ++ List.replicate (n - k9 - 1) (V.ref AN))) hp
      have S5 := (s1.trans s2).trans ((s3.trans s4).trans s5)
      refine k p _ ((SG.trans ((s1.trans s2).trans (s3.trans s4))).free hp) (SG.trans S5) ⟨_, upd_same, ?_⟩
      refine FrsK.app (FrsK.app ?_ ?_) (FrsK.rep (tN _) _)
      · obtain ⟨vs9, e9, f9⟩ := FrL.k (K := K) ⟨us2, hacc, fv⟩
        rw [hacc] at e9
        cases e9
        exact f9.same S5
      · exact FrsK.rep (tO _) 1
end
end E1

namespace E1
open PySem PySem.Spec PyProof.Rows L2

/-- the leading place of the row ahead -/
def lastD (rs : List (List Int)) : Nat → Int
  | 0 => 1
  | k + 1 => en rs k k
def pivR (rs : List (List Int)) (bs : List Int) (k : Nat) : Rat := Rat.divInt (en rs k k) (lastD rs k * bs.getD k 0)
/-- rows whose leading places are not 0 -/
def Led (rs : List (List Int)) (n m : Nat) : Prop := n ≤ m ∧ rs.length = n ∧ n ≤ 10 ∧ (∀ r ∈ rs, r.length = m ∧ Bits 3400 r) ∧ ∀ i, i < n → en rs i i ≠ 0
theorem Led.bits {rs : List (List Int)} {n m : Nat} (h : Led rs n m) (i j : Nat) : (en rs i j).natAbs < 2 ^ 3400 := by
  unfold en
  rw [List.getD_eq_getElem?_getD (l := rs)]
  cases e : rs[i]? with
  | none =>
    show (([] : List Int).getD j 0).natAbs < 2 ^ 3400
    exact Nat.pow_pos (by decide)
  | some r => exact (h.2.2.2.1 r (List.mem_of_getElem? e)).2.at j
theorem Led.last {rs : List (List Int)} {n m : Nat} (h : Led rs n m) {k : Nat} (hk : k ≤ n) : lastD rs k ≠ 0 ∧ (lastD rs k).natAbs < 2 ^ 3400 := by
  cases k with
  | zero => exact ⟨show (1 : Int) ≠ 0 by decide, Nat.lt_of_lt_of_le (show (1 : Int).natAbs < 2 ^ 1 by decide) (Nat.pow_le_pow_right (by decide) (by decide))⟩
  | succ k => exact ⟨h.2.2.2.2 k (by omega), h.bits k k⟩
def spLoP : Sp := fun vs H Q _ => ∃ (a : Addr) (us : List V) (rs : List (List Int)) (n m i j : Nat), vs = [.ref a, .int (i : Nat), .int (j : Nat)] ∧ H a = some (.lst us) ∧ RwL H us rs ∧ Led rs n m ∧ j < n ∧ i < m ∧ ∀ p H', H p = none → Same H H' → Fr H' p (Rat.divInt (en rs j i) (en rs j j)) → Q (.ref p) H'
def spPiv : Sp := fun vs H Q _ => ∃ (a c : Addr) (us : List V) (rs : List (List Int)) (bs : List Int) (n m : Nat), vs = [.ref a, .ref c] ∧ H a = some (.lst us) ∧ RwL H us rs ∧ Led rs n m ∧ H c = some (.lst (bs.map V.int)) ∧ bs.length = n ∧ (∀ b ∈ bs, b ≠ 0 ∧ b.natAbs < 2 ^ 600) ∧ ∀ p H', H p = none → Same H H' → FrL H' p ((List.range n).map (pivR rs bs)) → Q (.ref p) H'
section
variable {P : Program} {w : World} {K : PySem.W.Frag} {mg : Str → Option Value} {base : Heap}
theorem sc_lower_place : FnScope ["stepped", "row", "column"] ["stepped", "row", "column"] (defScope s_lower_place) := ⟨rfl, rfl, rfl, by decide +kernel, rfl, by decide +kernel, by decide +kernel⟩
theorem ok_lower_place {f : Addr} {fd : FuncData} (F : Fun K "lower_place" "lower_place" s_lower_place f fd) (c_lowest : Cal P w K mg base 2 "lowest" ["top", "bottom"] spLow) : FnOk P w K mg base CX0 3 f fd ["stepped", "row", "column"] spLoP := by
  refine F.ok sc_lower_place (fun vs H Q E h => ?_) (fun cdv A outer s H vs Q E hr h => ?_)
  · obtain ⟨a, us, rs, n, m, i, j, rfl, _⟩ := h
    rfl
  · obtain ⟨a, us, rs, n, m, i, j, rfl, ha, hu, ld, hj, hi, k⟩ := h
    refine ⟨_, (pss_one (ps_ret (pe_cal c_lowest hr (pa_cons (pe_ix ix_list (pe_ix ix_list (pv 0) (pv 2) (fun _ _ => rfl)) (pv 1) (fun _ _ => rfl)) (pa_cons (pe_ix ix_list (pe_ix ix_list (pv 0) (pv 2) (fun _ _ => rfl)) (pv 2) (fun _ _ => rfl)) pa_nil))))), ?_⟩
    obtain ⟨b, r, e1, e2, e3, e4⟩ := hu.row (i := j) (by rw [ld.2.1]; exact hj)
    have wr := (ld.2.2.2.1 r (List.mem_of_getElem? e2)).1
    have nm := ld.1
    refine ⟨_, rfl, _, rfl, a, us, _, .ref b, rfl, rfl, SqL.of ha, atI_nat e1, ?_⟩
    refine ⟨_, rfl, b, _, _, .int (r.getD i 0), rfl, rfl, SqL.of e4, atZ (by omega), ?_⟩
    refine ⟨_, rfl, _, rfl, a, us, _, .ref b, rfl, rfl, SqL.of ha, atI_nat e1, ?_⟩
    refine ⟨_, rfl, b, _, _, .int (r.getD j 0), rfl, rfl, SqL.of e4, atZ (by omega), ?_⟩
    rw [← en_at e2, ← en_at e2]
    have j0 := ld.2.2.2.2 j hj
    exact ⟨_, _, rfl, j0, up (ld.bits j j) (by decide), fun p hp => k p _ hp (same_new hp) (Fr.low j0 rfl upd_same)⟩
theorem sc_pivots_of : FnScope ["stepped", "bottoms", "pivots", "last", "at", "bottom"] ["stepped", "bottoms"] (defScope s_pivots_of) := ⟨rfl, rfl, rfl, by decide +kernel, rfl, by decide +kernel, by decide +kernel⟩
theorem ok_pivots_of {f : Addr} {fd : FuncData} (F : Fun K "pivots_of" "pivots_of" s_pivots_of f fd) (z : Zs mg) (c_lowest : Cal P w K mg base 2 "lowest" ["top", "bottom"] spLow) : FnOk P w K mg base CX0 3 f fd ["stepped", "bottoms"] spPiv := by
  refine F.ok sc_pivots_of (fun vs H Q E h => ?_) (fun cdv A outer s H vs Q E hr h => ?_)
  · obtain ⟨a, c, us, rs, bs, n, m, rfl, _⟩ := h
    rfl
  · obtain ⟨a, c, us, rs, bs, n, m, rfl, ha, hu, ld, hc, lb, hb, k⟩ := h
    refine ⟨_, (pss_cons (ps_set (i := 2) sc_pivots_of.nd rfl (.inl rfl) (pe_lst pa_nil))
      (pss_cons (ps_set (i := 3) sc_pivots_of.nd rfl (.inl rfl) pe_int)
      (pss_cons (ps_for PassesOwn.never rfl (pi_enum (by rfl) z.enumerate (pa_cons (pv 1) pa_nil)) (pg_tup (by rfl) (pgs_cons (pg_name (i := 4) sc_pivots_of.nd rfl (.inl rfl)) (pgs_cons (pg_name (i := 5) sc_pivots_of.nd rfl (.inl rfl)) pgs_nil))) (pss_cons (ps_expr (pe_bm PySem.F.plainAttrs_list PySem.F.slot_list_append PySem.F.type_list_append mt_append (pv 2) (pa_cons (pe_cal c_lowest hr (pa_cons (pe_ix ix_list (pe_ix ix_list (pv 0) (pv 4) (fun _ _ => rfl)) (pv 4) (fun _ _ => rfl)) (pa_cons (pe_op op_mulW (pv 3) (pv 5)) pa_nil))) pa_nil)))
      (pss_one (ps_set (i := 3) sc_pivots_of.nd rfl (.inl rfl) (pe_ix ix_list (pe_ix ix_list (pv 0) (pv 4) (fun _ _ => rfl)) (pv 4) (fun _ _ => rfl))))))
      (pss_one (ps_ret (pv 2)))))), ?_⟩
    have n10 := ld.2.2.1
    have nm := ld.1
    refine ⟨(by show 0 ≤ sizeLine; decide), fun D hD => ?_⟩
    have s1 := same_new (o := .lst []) hD
    refine ⟨_, rfl, c, _, rfl, SqL.of (s1 _ _ hc), ?_⟩
    refine for_it (walk_enum (K := K) (a := c) (xs := bs.map V.int)) (fun i σ G => Same H G ∧ ∃ y4 y5 : Option V, σ = [some (.ref a), some (.ref c), some (.ref D), some (.int (lastD rs i)), y4, y5] ∧ FrL G D ((List.range i).map (pivR rs bs))) ⟨s1, none, none, rfl, [], upd_same, .nil⟩ (fun i σ G _ hP => SqL.of (hP.1 _ _ hc)) (fun i v σ G G' hi hP hY => ?_) (fun σ G hP => ?_)
    · obtain ⟨sG, y4, y5, rfl, vs, eD, fv⟩ := hP
      obtain ⟨Tq, u, v2, rfl, nT, rfl, e2, e3⟩ := hY
      dsimp only at e2 e3
      cases e2
      rw [List.getElem?_map] at e3
      obtain ⟨bt, hbt, rfl⟩ := Option.map_eq_some_iff.mp e3
      have li := (List.getElem?_eq_some_iff.mp hbt).1
      have sN := same_new (o := .tup [.int ((i : Nat) : Int), .int bt]) nT
      obtain ⟨b0, b9⟩ := hb bt (List.mem_of_getElem? hbt)
      obtain ⟨l0, l9⟩ := ld.last (k := i) (by omega)
      obtain ⟨b, r, e1, f2, f3, f4⟩ := hu.row (i := i) (by rw [ld.2.1]; omega)
      have wr := (ld.2.2.2.1 r (List.mem_of_getElem? f2)).1
      have S2 := sG.trans sN
      refine ⟨Tq, _, rfl, SqT.of upd_same, rfl, _, _, rfl, _, _, rfl, rfl, ?_⟩
      refine ⟨_, rfl, .inl ⟨rfl, _, SqL.of (sN _ _ eD)⟩, ?_⟩
      refine ⟨_, rfl, _, rfl, a, us, _, .ref b, rfl, rfl, SqL.of (S2 _ _ ha), atI_nat e1, ?_⟩
      refine ⟨_, rfl, b, _, _, .int (r.getD i 0), rfl, rfl, SqL.of (S2 _ _ f4), atZ (by omega), ?_⟩
      rw [← en_at f2]
      have p0 : lastD rs i * bt ≠ 0 := Int.mul_ne_zero l0 b0
      have p9 : (lastD rs i * bt).natAbs < 2 ^ 4000 := by
        rw [Int.natAbs_mul]
        have := Nat.mul_lt_mul'' l9 b9
        rw [← Nat.pow_add] at this
        exact this
      refine ⟨_, rfl, _, rfl, _, _, rfl, rfl, wide_mul l9 b9 (by decide) (by decide) (by decide), _, _, rfl, p0, p9, fun p hp => ?_⟩
      have s3 := same_new (o := .tup [.int (lowT (en rs i i) (lastD rs i * bt)), .int (lowB (en rs i i) (lastD rs i * bt))]) hp
      have eD3 := s3 _ _ (sN _ _ eD)
      have np : p ≠ D := fun e => by
        rw [e, sN _ _ eD] at hp
        cases hp
      have lv := FrsAt.len fv
      rw [List.length_map, List.length_range] at lv
      have fp : Fr (upd (upd G Tq (.tup [.int ((i : Nat) : Int), .int bt])) p (.tup [.int (lowT (en rs i i) (lastD rs i * bt)), .int (lowB (en rs i i) (lastD rs i * bt))])) p (pivR rs bs i) := Fr.low (t := en rs i i) (b := lastD rs i * bt) p0 (by
        unfold pivR
        rw [List.getD_eq_getElem?_getD, hbt]
        rfl) upd_same
      refine ⟨D, vs, _, rfl, rfl, eD3, small1000 (by omega), ?_⟩
      have s4 : Same H (upd (upd (upd G Tq (.tup [.int ((i : Nat) : Int), .int bt])) p (.tup [.int (lowT (en rs i i) (lastD rs i * bt)), .int (lowB (en rs i i) (lastD rs i * bt))])) D (.lst (vs ++ [.ref p]))) := fun x o e => by
        rw [upd_ne (ne_of_none e hD)]
        exact s3 _ _ (S2 _ _ e)
      refine ⟨_, rfl, _, rfl, a, us, _, .ref b, rfl, rfl, SqL.of (s4 _ _ ha), atI_nat e1, ?_⟩
      refine ⟨_, rfl, b, _, _, .int (r.getD i 0), rfl, rfl, SqL.of (s4 _ _ f4), atZ (by omega), ?_⟩
      rw [← en_at f2]
      refine ⟨s4, _, _, rfl, vs ++ [.ref p], upd_same, ?_⟩
      rw [List.range_succ, List.map_append]
      refine FrsAt.app (PrsAt.but (PrsAt.same (PrsAt.same fv sN) s3) SameBut.upd eD3) (FrsAt.one ?_)
      show (upd (upd (upd G Tq _) p _) D _) p = _
      rw [upd_ne np]
      exact fp
    · obtain ⟨sG, y4, y5, rfl, fD⟩ := hP
      rw [List.length_map, lb] at fD
      exact ⟨_, rfl, k D G hD sG fD⟩
end
end E1

namespace E1
open PySem PySem.Spec PyProof.Rows L2
/-! ### lists of rows of fractions -/
def SeL (H : Hp) (vs : List V) (ss : List (List Rat)) : Prop := vs.length = ss.length ∧ ∀ (i : Nat) (s : List Rat), ss[i]? = some s → ∃ b, vs[i]? = some (.ref b) ∧ FrL H b s
theorem SeL.same {H H' : Hp} {vs : List V} {ss : List (List Rat)} (h : SeL H vs ss) (s : Same H H') : SeL H' vs ss := ⟨h.1, fun i x e => let ⟨b, e1, f⟩ := h.2 i x e; ⟨b, e1, f.same s⟩⟩
theorem SeL.get {H : Hp} {vs : List V} {ss : List (List Rat)} (h : SeL H vs ss) {i : Nat} {v : V} (e : vs[i]? = some v) : ∃ b s, v = .ref b ∧ ss[i]? = some s ∧ FrL H b s := by
  have hi := (List.getElem?_eq_some_iff.mp e).1
  have e2 : ss[i]? = some (ss[i]'(by rw [← h.1]; exact hi)) := List.getElem?_eq_getElem _
  obtain ⟨b, e3, f⟩ := h.2 i _ e2
  rw [e] at e3
  cases e3
  exact ⟨b, _, rfl, e2, f⟩
theorem SeL.app {H : Hp} {vs us : List V} {ss ts : List (List Rat)} (h : SeL H vs ss) (g : SeL H us ts) : SeL H (vs ++ us) (ss ++ ts) := by
  refine ⟨by rw [List.length_append, List.length_append, h.1, g.1], fun i s e => ?_⟩
  by_cases c : i < ss.length
  · rw [List.getElem?_append_left c] at e
    rw [List.getElem?_append_left (by rw [h.1]; exact c)]
    exact h.2 i s e
  · rw [List.getElem?_append_right (by omega)] at e
    rw [List.getElem?_append_right (by rw [h.1]; omega), h.1]
    exact g.2 _ s e
theorem SeL.one {H : Hp} {b : Addr} {s : List Rat} (h : FrL H b s) : SeL H [.ref b] [s] := by
  refine ⟨rfl, fun i t e => ?_⟩
  match i with
  | 0 => cases e; exact ⟨b, rfl, h⟩
  | i + 1 => cases e
theorem SeL.drop {H : Hp} {vs : List V} {ss : List (List Rat)} (h : SeL H vs ss) (n : Nat) : SeL H (vs.drop n) (ss.drop n) := by
  refine ⟨by rw [List.length_drop, List.length_drop, h.1], fun i s e => ?_⟩
  rw [List.getElem?_drop] at e ⊢
  exact h.2 _ s e
theorem SeL.take {H : Hp} {vs : List V} {ss : List (List Rat)} (h : SeL H vs ss) (n : Nat) : SeL H (vs.take n) (ss.take n) := by
  refine ⟨by rw [List.length_take, List.length_take, h.1], fun i s e => ?_⟩
  rw [List.getElem?_take] at e ⊢
  split at e
  · rw [if_pos (by assumption)]
    exact h.2 _ s e
  · cases e
theorem SeL.rev {H : Hp} {vs : List V} {ss : List (List Rat)} (h : SeL H vs ss) : SeL H vs.reverse ss.reverse := by
  refine ⟨by rw [List.length_reverse, List.length_reverse, h.1], fun i s e => ?_⟩
  have hi := (List.getElem?_eq_some_iff.mp e).1
  rw [List.length_reverse] at hi
  rw [List.getElem?_reverse hi] at e
  rw [List.getElem?_reverse (by rw [h.1]; exact hi), h.1]
  exact h.2 _ s e
theorem FrL.but {H H' : Hp} {D b : Addr} {us : List V} {s : List Rat} (h : FrL H b s) (n : b ≠ D) (t : SameBut D H H') (hD : H D = some (.lst us)) : FrL H' b s := by
  obtain ⟨vs, e, r⟩ := h
  exact ⟨vs, t _ _ n e, PrsAt.but r t hD⟩
theorem SeL.butN {H H' : Hp} {D : Addr} {us vs : List V} {ss : List (List Rat)} (h : SeL H vs ss) (hD : H D = some (.lst us)) (n : ∀ v ∈ vs, v ≠ .ref D) (t : SameBut D H H') : SeL H' vs ss :=
  ⟨h.1, fun i s e => let ⟨b, e1, f⟩ := h.2 i s e; ⟨b, e1, f.but (fun z => n _ (List.mem_of_getElem? e1) (by rw [z])) t hD⟩⟩
def ad (ss : List (List Rat)) (i j : Nat) : Rat := (ss.getD i []).getD j 0
def clr (s : List Rat) : List Int := tops (com ((s.map pr).map (·.2))) (s.map pr)
theorem top_val {q : Rat} {c : Int} (h : (q.den : Int) ∣ c) : ((q.num * (c / (q.den : Int)) : Int) : Rat) = (c : Rat) * q := by
  obtain ⟨e, rfl⟩ := h
  have d0 := den_ge q
  rw [Int.mul_ediv_cancel_left _ (by omega)]
  have v := q_eq q
  rw [Rat.intCast_mul, Rat.intCast_mul, ← v]
  grind
def spIsRow : Sp := fun vs H Q _ => ∃ (a : Addr) (qs : List Rat), vs = [.ref a] ∧ FrL H a qs ∧ 1 ≤ qs.length ∧ qs.length ≤ 10 ∧ ∀ H', Same H H' → Q (.bl true) H'
/-- a matrix of as many rows as columns -/
def Sq (A : List (List Rat)) : Prop := A.length ≤ 10 ∧ ∀ r ∈ A, r.length = A.length
def spIsMat : Sp := fun vs H Q _ => ∃ (a : Addr) (ws : List V) (A : List (List Rat)), vs = [.ref a] ∧ H a = some (.lst ws) ∧ SeL H ws A ∧ Sq A ∧ ∀ H', Same H H' → Q (.bl true) H'
def spShape : Sp := fun vs H Q _ => ∃ (a : Addr) (ws : List V) (A : List (List Rat)), vs = [.ref a] ∧ H a = some (.lst ws) ∧ SeL H ws A ∧ Sq A ∧ ∀ p, H p = none → Q (.ref p) (upd H p (.tup [.int (A.length : Nat), .int (A.length : Nat)]))

def BddB (b : Nat) (xs : List Rat) : Prop := ∃ E : Int, E ≠ 0 ∧ E.natAbs < 2 ^ b ∧ ∀ q ∈ xs, Sc E (2 ^ b) q
theorem bddB_canc {A rs : List (List Int)} {m k n b N : Nat} (S : Stg A rs m id k) (h1 : 1 ≤ N) (hb : Bd A N) (big : (A.length + 1) * (fac A.length * N ^ A.length) < 2 ^ b) : BddB b (cancR (cA A id) k n) := by
  have kl := S.kle
  have lim : ∀ x, x ≤ (A.length + 1) * (fac k * N ^ k) → x < 2 ^ b := fun x hx => Nat.lt_of_le_of_lt (Nat.le_trans hx (Nat.mul_le_mul_left _ (Nat.mul_le_mul (fac_mono kl) (Nat.pow_le_pow_right h1 kl)))) big
  obtain ⟨E, Ed, Eb⟩ := dd_wh (cA_wh hb id) k
  have dne := S.lead k (Nat.le_refl _)
  have E0 : E ≠ 0 := fun z => dne (by rw [Ed, z]; rfl)
  have E9 : E.natAbs < 2 ^ b := lim _ (Nat.le_trans Eb (Nat.le_mul_of_pos_left _ (Nat.succ_pos _)))
  have tpS : ∀ t, Sc E (2 ^ b) (tp (cA A id) k k t / dd (cA A id) k) := fun t => by
    obtain ⟨z, ez, bz⟩ := tp_wh (cA_wh hb id) k k t
    refine ⟨z, ?_, Nat.le_of_lt (lim _ (Nat.le_trans bz (Nat.mul_le_mul_right _ (by omega))))⟩
    rw [← ez, ← Ed]
    exact Rat.div_mul_cancel dne
  refine ⟨E, E0, E9, fun q hq => ?_⟩
  unfold cancR at hq
  rcases List.mem_append.mp hq with h | h
  · rcases List.mem_append.mp h with h | h
    · obtain ⟨r, hr, rfl⟩ := List.mem_map.mp h
      obtain ⟨t, _, rfl⟩ := List.mem_map.mp hr
      obtain ⟨z, e, l⟩ := tpS t
      refine ⟨-z, ?_, by rw [Int.natAbs_neg]; exact l⟩
      rw [Rat.intCast_neg, ← e]
      grind
    · rw [List.mem_singleton.mp h]
      exact ⟨E, by grind, Nat.le_of_lt E9⟩
  · rw [(List.mem_replicate.mp h).2]
    exact Sc.zero
structure GdM (ss : List (List Rat)) : Prop where
  sq : Sq ss
  sym : ∀ i j, i < ss.length → j < ss.length → ad ss i j = ad ss j i
  btm : ∀ s ∈ ss, ∃ D, Btm D (s.map pr) ∧ D.natAbs < 2 ^ 600
  fine : Fine (ss.map clr) ss.length
def cof (ss : List (List Rat)) (i : Nat) : Int := com (((ss.getD i []).map pr).map (·.2))
theorem GdM.row {ss : List (List Rat)} (G : GdM ss) {i : Nat} (hi : i < ss.length) : ss[i]? = some (ss.getD i []) ∧ ss.getD i [] ∈ ss := by
  have e : ss[i]? = some (ss.getD i []) := by
    rw [List.getD_eq_getElem?_getD, List.getElem?_eq_getElem hi]
    rfl
  exact ⟨e, List.mem_of_getElem? e⟩
theorem GdM.pos {ss : List (List Rat)} (G : GdM ss) {i : Nat} (hi : i < ss.length) : 0 < cof ss i ∧ (cof ss i).natAbs < 2 ^ 600 := by
  obtain ⟨e, hm⟩ := G.row hi
  obtain ⟨D, bt, lt⟩ := G.btm _ hm
  obtain ⟨c0, dv, _⟩ := bt.com
  refine ⟨c0, Nat.lt_of_le_of_lt (Nat.le_of_dvd (by have := bt.1; omega) (Int.natAbs_dvd_natAbs.mpr dv)) lt⟩
theorem GdM.scale {ss : List (List Rat)} (G : GdM ss) (i j : Nat) (hi : i < ss.length) : cA (ss.map clr) id i j = (cof ss i : Rat) * ad ss i j := by
  obtain ⟨e1, hm⟩ := G.row hi
  obtain ⟨D, bt, _⟩ := G.btm _ hm
  obtain ⟨c0, _, dv⟩ := bt.com
  have wj := G.sq.2 _ hm
  have e2 : (ss.map clr)[i]? = some (clr (ss.getD i [])) := by rw [List.getElem?_map, e1]; rfl
  show (en (ss.map clr) i j : Rat) = _
  rw [en_at e2]
  show _ = ((com (((ss.getD i []).map pr).map (·.2)) : Int) : Rat) * (ss.getD i []).getD j 0
  generalize ss.getD i [] = s at *
  by_cases hj : j < s.length
  · have e3 : s[j]? = some (s.getD j 0) := by
      rw [List.getD_eq_getElem?_getD, List.getElem?_eq_getElem hj]
      rfl
    have e4 : (clr s).getD j 0 = (s.getD j 0).num * (com ((s.map pr).map (·.2)) / ((s.getD j 0).den : Int)) := by
      unfold clr tops
      rw [List.getD_eq_getElem?_getD, List.getElem?_map, List.getElem?_map, e3]
      rfl
    rw [e4]
    exact top_val (dv (pr (s.getD j 0)) (List.mem_map_of_mem (List.mem_of_getElem? e3)))
  · have z1 : s.getD j 0 = 0 := by rw [List.getD_eq_getElem?_getD, List.getElem?_eq_none (by omega)]; rfl
    have z2 : (clr s).getD j 0 = 0 := by
      unfold clr tops
      rw [List.getD_eq_getElem?_getD, List.getElem?_eq_none (by rw [List.length_map, List.length_map]; omega)]
      rfl
    rw [z1, z2]
    show ((0 : Int) : Rat) = _
    grind
theorem EndA.at {A rs : List (List Int)} {m k : Nat} (E : EndA A rs m k) (hm : k ≤ m) {i : Nat} (hi : i < k) : (en rs i i : Rat) = dd (cA A id) (i + 1) := by
  have S := E.1
  have := S.kle
  rw [S.val i i (by omega) (by omega), Nat.min_eq_left (by omega)]
  rfl
theorem EndA.up {A rs : List (List Int)} {m k : Nat} (E : EndA A rs m k) (hm : k ≤ m) : ∀ i, i < k → 0 < dd (cA A id) (i + 1) := fun i hi => by
  rw [← E.at hm hi]
  exact Rat.intCast_lt_intCast.mpr (E.2.1 i hi)
theorem canc_at {P : Nat → Nat → Rat} {k n : Nat} (hk : k < n) : (cancR P k n).length = n ∧ ∀ t, (cancR P k n).getD t 0 = cutX P k t := by
  have l1 : ((madeR P k).map (fun q => -q)).length = k := by rw [List.length_map, madeR_len]
  refine ⟨?_, fun t => ?_⟩
  · unfold cancR
    rw [List.length_append, List.length_append, l1, List.length_replicate]
    show k + 1 + (n - k - 1) = n
    omega
  · unfold cancR cutX
    rw [List.getD_eq_getElem?_getD, List.append_assoc]
    by_cases h1 : t < k
    · rw [if_pos h1, List.getElem?_append_left (by rw [l1]; exact h1), List.getElem?_map]
      unfold madeR
      rw [List.getElem?_map, List.getElem?_range h1]
      rfl
    · rw [if_neg h1, List.getElem?_append_right (by rw [l1]; omega), l1]
      by_cases h2 : t = k
      · rw [if_pos h2, h2, Nat.sub_self]
        rfl
      · rw [if_neg h2, show t - k = (t - k - 1) + 1 by omega]
        show ((List.replicate (n - k - 1) (0 : Rat))[t - k - 1]?).getD 0 = 0
        rw [List.getElem?_replicate]
        split <;> rfl
theorem GdM.cpos {ss : List (List Rat)} (G : GdM ss) (i : Nat) (hi : i < ss.length) : (0 : Rat) < (cof ss i : Rat) := by
  have := Rat.intCast_lt_intCast.mpr (G.pos hi).1
  exact this
theorem EndA.no {ss : List (List Rat)} {rs : List (List Int)} {k : Nat} (G : GdM ss) (E : EndA (ss.map clr) rs ss.length k) (hk : k < ss.length) : Shows ss.length (ad ss) (fun t => (cancR (cA (ss.map clr) id) k ss.length).getD t 0) k := by
  have e : (fun t => (cancR (cA (ss.map clr) id) k ss.length).getD t 0) = cutX (cA (ss.map clr) id) k := funext (canc_at hk).2
  rw [e]
  have S := E.1
  have lm : (ss.map clr).length = ss.length := List.length_map _
  refine shows_of (c := fun i => (cof ss i : Rat)) (fun i j hi => G.scale i j hi) G.cpos S.lead hk ?_ ?_
  · rcases E.2.2 with z | ⟨_, z⟩
    · omega
    · have v := S.val k k (by omega) hk
      rw [Nat.min_self] at v
      rw [dd_succ]
      show bb (cA (ss.map clr) id) k (cA (ss.map clr) id k) k ≤ 0
      rw [← v]
      exact Rat.intCast_le_intCast.mpr z
  · cases k with
    | zero =>
      rw [dd_zero]
      decide +kernel
    | succ k => exact E.up (by omega) k (Nat.lt_succ_self k)
theorem EndA.yes {ss : List (List Rat)} {rs : List (List Int)} (G : GdM ss) (E : EndA (ss.map clr) rs ss.length ss.length) : (∀ k, k < ss.length → 0 < dd (ad ss) (k + 1)) ∧ Led rs ss.length ss.length ∧
    (∀ i j, i < ss.length → j < ss.length → Rat.divInt (en rs j i) (en rs j j) = lo (ad ss) i j) ∧ ∀ k bs, k < ss.length → bs.getD k 0 = cof ss k → pivR rs bs k = di (ad ss) k := by
  have S := E.1
  have lm : (ss.map clr).length = ss.length := List.length_map _
  have hs : ∀ i j, i < ss.length → cA (ss.map clr) id i j = (fun i => (cof ss i : Rat)) i * ad ss i j := fun i j hi => G.scale i j hi
  have up := E.up (Nat.le_refl _)
  have pos := scale_pos hs G.cpos up
  have cne : ∀ i, i < ss.length → (fun i => (cof ss i : Rat)) i ≠ 0 := fun i hi z => by
    have := G.cpos i hi
    rw [show (cof ss i : Rat) = 0 from z] at this
    exact absurd this (by decide +kernel)
  have pne : ∀ k, k < ss.length → dd (ad ss) (k + 1) ≠ 0 := fun k hk z => by
    have := pos k hk
    rw [z] at this
    exact absurd this (by decide +kernel)
  have dg : ∀ j, j < ss.length → (en rs j j : Rat) = dd (cA (ss.map clr) id) (j + 1) := fun j hj => E.at (Nat.le_refl _) hj
  refine ⟨pos, ⟨Nat.le_refl _, by rw [S.len, lm], G.sq.1, fun r hr => ?_, fun i hi z => ?_⟩, fun i j hi hj => ?_, fun k bs hk hb => ?_⟩
  · obtain ⟨i, hi⟩ := List.mem_iff_getElem?.mp hr
    exact ⟨S.wid r hr, (S.row G.fine hi).2.2.2⟩
  · have := E.2.1 i hi
    omega
  · rw [Rat.divInt_eq_div, dg j hj, S.val j i (by omega) hi, Nat.min_eq_left (by omega)]
    exact lo_scale hs cne hj (pne j hj) i
  · unfold pivR
    have hl : (lastD rs k : Rat) = dd (cA (ss.map clr) id) k := by
      cases k with
      | zero => rfl
      | succ k => exact dg k (by omega)
    rw [Rat.divInt_eq_div, dg k hk, Rat.intCast_mul, hl, hb]
    refine di_scale hs G.cpos hk ?_
    cases k with
    | zero =>
      rw [dd_zero]
      decide +kernel
    | succ k => exact pne k (by omega)
def loM (q : Nat → Nat → Rat) (n : Nat) : List (List Rat) := (List.range n).map fun i => (List.range n).map fun t => lo q i t
def diM (q : Nat → Nat → Rat) (n : Nat) : List Rat := (List.range n).map (di q)
/-- cleared rows in pairs with their bottoms -/
def PrL (H : Hp) (us : List V) (ss : List (List Rat)) : Prop := us.length = ss.length ∧ ∀ (i : Nat) (s : List Rat), ss[i]? = some s → ∃ t b, us[i]? = some (.ref t) ∧ H t = some (.tup [.ref b, .int (com ((s.map pr).map (·.2)))]) ∧ H b = some (.lst ((clr s).map V.int))
theorem PrL.same {H H' : Hp} {us : List V} {ss : List (List Rat)} (h : PrL H us ss) (e : Same H H') : PrL H' us ss := ⟨h.1, fun i s q => let ⟨t, b, e1, e2, e3⟩ := h.2 i s q; ⟨t, b, e1, e _ _ e2, e _ _ e3⟩⟩
theorem PrL.butD {H H' : Hp} {D : Addr} {us : List V} {ss : List (List Rat)} (h : PrL H us ss) (hD : H D = some (.lst us)) (n0 : ∀ s ∈ ss, clr s ≠ []) (e : SameBut D H H') : PrL H' us ss := by
  refine ⟨h.1, fun i s q => ?_⟩
  obtain ⟨t, b, e1, e2, e3⟩ := h.2 i s q
  refine ⟨t, b, e1, e _ _ ?_ e2, e _ _ ?_ e3⟩
  · intro z
    rw [z, hD] at e2
    cases e2
  · intro z
    rw [z, hD] at e3
    have u0 := HO.lst.inj (Option.some.inj e3)
    obtain ⟨x, xs, hx⟩ := List.exists_cons_of_ne_nil (n0 s (List.mem_of_getElem? q))
    have hl : 0 < ss.length := Nat.lt_of_le_of_lt (Nat.zero_le _) (List.getElem?_eq_some_iff.mp q).1
    obtain ⟨t', b', f1, _⟩ := h.2 0 _ (List.getElem?_eq_getElem hl)
    rw [u0, hx] at f1
    cases f1
theorem PrL.app {H : Hp} {us vs : List V} {ss ts : List (List Rat)} (h : PrL H us ss) (g : PrL H vs ts) : PrL H (us ++ vs) (ss ++ ts) := by
  refine ⟨by rw [List.length_append, List.length_append, h.1, g.1], fun i s e => ?_⟩
  by_cases c : i < ss.length
  · rw [List.getElem?_append_left c] at e
    rw [List.getElem?_append_left (by rw [h.1]; exact c)]
    exact h.2 i s e
  · rw [List.getElem?_append_right (by omega)] at e
    rw [List.getElem?_append_right (by rw [h.1]; omega), h.1]
    exact g.2 _ s e
theorem PrL.one {H : Hp} {t b : Addr} {s : List Rat} (e1 : H t = some (.tup [.ref b, .int (com ((s.map pr).map (·.2)))])) (e2 : H b = some (.lst ((clr s).map V.int))) : PrL H [.ref t] [s] :=
  ⟨rfl, fun i q e => by
    cases i with
    | zero =>
      cases e
      exact ⟨t, b, rfl, e1, e2⟩
    | succ i => cases e⟩
theorem clr_len (s : List Rat) : (clr s).length = s.length := by
  unfold clr tops
  rw [List.length_map, List.length_map]
def spSignsOf (K : PySem.W.Frag) : Sp := fun vs H Q _ => ∃ (a : Addr) (ws : List V) (ss : List (List Rat)), vs = [.ref a] ∧ H a = some (.lst ws) ∧ SeL H ws ss ∧ GdM ss ∧
  (∀ p l d us H', H l = none → Same H H' → H' p = some (.tup [.str "above", .ref l, .ref d]) → H' l = some (.lst us) → SeL H' us (loM (ad ss) ss.length) → FrL H' d (diM (ad ss) ss.length) → (∀ k, k < ss.length → 0 < dd (ad ss) (k + 1)) → Q (.ref p) H') ∧
  (∀ p r xs k H', H r = none → Same H H' → H' p = some (.tup [.str "not", .ref r]) → FrLK K H' r xs → xs.length = ss.length → Shows ss.length (ad ss) (fun t => xs.getD t 0) k → (∀ b N : Nat, 1 ≤ N → Bd (ss.map clr) N → (ss.length + 1) * (fac ss.length * N ^ ss.length) < 2 ^ b → BddB b xs) → Q (.ref p) H')
section
variable {P : Program} {w : World} {K : PySem.W.Frag} {mg : Str → Option Value} {base : Heap}
theorem sc_is_row : FnScope ["thing"] ["thing"] (defScope s_is_row) := ⟨rfl, rfl, rfl, by decide +kernel, rfl, by decide +kernel, by decide +kernel⟩
theorem ok_is_row {f : Addr} {fd : FuncData} (F : Fun K "is_row" "is_row" s_is_row f fd) (z : Zs mg) {tT : Tok} (g_MOST_ROWS : mg "MOST_ROWS" = some (.int 10 tT)) (c_is_fractions : Cal P w K mg base 3 "is_fractions" ["thing"] spIsFrs) : FnOk P w K mg base CX0 4 f fd ["thing"] spIsRow := by
  refine F.ok sc_is_row (fun vs H Q E h => ?_) (fun cdv A outer s H vs Q E hr h => ?_)
  · obtain ⟨a, qs, rfl, _⟩ := h
    rfl
  · obtain ⟨a, qs, rfl, hq, h1, h2, k⟩ := h
    refine ⟨_, (pss_one (ps_ret (pe_and (pe_cal c_is_fractions hr (pa_cons (pv 0) pa_nil)) (pe_one (pe_chain op_le op_le pe_int (pe_callB call_len_seq (by rfl) z.len PySem.boot_len (pa_cons (pv 0) pa_nil)) (pe_glob (v := .int 10) (by rfl) g_MOST_ROWS ⟨_, rfl⟩)))))), ?_⟩
    refine ⟨_, rfl, a, qs, rfl, hq, by omega, fun H1 s1 => ?_⟩
    refine ⟨_, rfl, iteT ?_⟩
    obtain ⟨vs, ha, lv, hv⟩ := (hq.same s1).len
    refine ⟨_, rfl, a, vs, rfl, .inl (SqL.of ha), _, _, rfl, rfl, _, rfl, iteC (d := true) (decide_eq_true (by omega)) (iteT ⟨_, _, rfl, rfl, ?_⟩)⟩
    have e9 : decide (((vs.length : Nat) : Int) ≤ 10) = true := decide_eq_true (by omega)
    show Q (.bl (decide (((vs.length : Nat) : Int) ≤ 10))) H1
    rw [e9]
    exact k _ s1
theorem sc_is_matrix : FnScope ["thing", "row"] ["thing"] (defScope s_is_matrix) := ⟨rfl, rfl, rfl, by decide +kernel, rfl, by decide +kernel, by decide +kernel⟩
theorem ok_is_matrix {f : Addr} {fd : FuncData} (F : Fun K "is_matrix" "is_matrix" s_is_matrix f fd) (z : Zs mg) {tT : Tok} (g_MOST_ROWS : mg "MOST_ROWS" = some (.int 10 tT)) (c_is_row : Cal P w K mg base 4 "is_row" ["thing"] spIsRow) : FnOk P w K mg base CX0 5 f fd ["thing"] spIsMat := by
  refine F.ok sc_is_matrix (fun vs H Q E h => ?_) (fun cdv A outer s H vs Q E hr h => ?_)
  · obtain ⟨a, ws, A, rfl, _⟩ := h
    rfl
  · obtain ⟨a, ws, A, rfl, ha, hs, sq, k⟩ := h
    refine ⟨_, (pss_cons (ps_if (PW.pt (pw_or (pt_not (pt_val (pe_callB call_isi (by rfl) z.isinstance (by decide +kernel) (pa_cons (pv 0) (pa_cons (pe_bltn (v := .ty "list") (by rfl) z.list (by decide +kernel) rfl) pa_nil))))) (pw_or1 (pt_cmpR op_gt (pe_callB call_len_seq (by rfl) z.len PySem.boot_len (pa_cons (pv 0) pa_nil)) (pe_glob (v := .int 10) (by rfl) g_MOST_ROWS ⟨_, rfl⟩) (nomark _))))) (pss_one (ps_ret pe_bl)) pss_nil)
      (pss_cons (ps_if (pt_not (pt_val (pe_callB (cr_all rfl) (by rfl) z.all (by decide +kernel) (pa_cons (pe_lc (own := [("row", 1)]) (g := gName 1) (tt := tYes) (te := (tCall spIsRow [] E0 (tCons (tVar 1) tNil))) (by rfl) sc_is_matrix.nd (pi_list (pv 0)) (blkOk_by (own := [("row", 1)]) (N := ["thing", "row"]) (sc := defScope s_is_matrix) (by decide +kernel)) (fun _ _ _ _ _ => by exact (pg_name (i := 1) sc_is_matrix.nd rfl (.inl rfl))) (fun _ _ _ _ _ => by exact pts_nil) (fun _ _ _ _ _ => by exact (pe_cal c_is_row hr (pa_cons (pv 1) pa_nil)))) pa_nil)))) (pss_one (ps_ret pe_bl)) pss_nil)
      (pss_one (ps_ret (pe_callB (cr_all rfl) (by rfl) z.all (by decide +kernel) (pa_cons (pe_lc (own := [("row", 1)]) (g := gName 1) (tt := tYes) (te := (tOp rEq (tCB (fun xs H Q => ∃ p ys, xs = [V.ref p] ∧ (SqL K H p ys ∨ SqT K H p ys) ∧ Q (.int ys.length) H) (tCons (tVar 1) tNil)) (tCB (fun xs H Q => ∃ p ys, xs = [V.ref p] ∧ (SqL K H p ys ∨ SqT K H p ys) ∧ Q (.int ys.length) H) (tCons (tOp (rIxL K) (tVar 0) (tC (.int 0))) tNil)))) (by rfl) sc_is_matrix.nd (pi_list (pv 0)) (blkOk_by (own := [("row", 1)]) (N := ["thing", "row"]) (sc := defScope s_is_matrix) (by decide +kernel)) (fun _ _ _ _ _ => by exact (pg_name (i := 1) sc_is_matrix.nd rfl (.inl rfl))) (fun _ _ _ _ _ => by exact pts_nil) (fun _ _ _ _ _ => by exact (pe_cmpR op_eq (pe_callB call_len_seq (by rfl) z.len PySem.boot_len (pa_cons (pv 1) pa_nil)) (pe_callB call_len_seq (by rfl) z.len PySem.boot_len (pa_cons (pe_ix ix_list (pv 0) pe_int (fun _ _ => rfl)) pa_nil)) (nomark _)))) pa_nil)))))), ?_⟩
    have lw := hs.1
    have n10 := sq.1
    refine ⟨_, rfl, _, .ty "list", _, _, true, rfl, .ty _, .base (.lst ha), kit_ty (by decide +kernel), _, rfl, iteF ?_⟩
    refine ⟨_, rfl, a, ws, rfl, .inl (SqL.of ha), _, _, rfl, rfl, _, rfl, iteC (d := false) (decide_eq_false (by omega)) (iteF ?_)⟩
    refine ⟨_, rfl, a, rfl, ⟨_, SqL.of ha⟩, fun D hD => lc_list (K := K) (a := a) (xs := ws) (fun i G => Same H G ∧ G D = some (.lst ((List.replicate i true).map V.bl))) ⟨same_new hD, upd_same⟩ (fun i G _ hP => SqL.of (hP.1 _ _ ha)) (fun i x G hx hP => ?_) (fun G hP => ?_)⟩
    · obtain ⟨sG, hacc⟩ := hP
      obtain ⟨b, r, rfl, hr2, fb⟩ := hs.get hx
      have li := (List.getElem?_eq_some_iff.mp hr2).1
      have wr := sq.2 r (List.mem_of_getElem? hr2)
      refine ⟨rfl, _, rfl, b, r, rfl, fb.same sG, by omega, by omega, fun G2 s2 => ?_⟩
      refine ⟨_, s2 _ _ hacc, ?_, fun b o e => ?_, ?_⟩
      · rw [List.length_map, List.length_replicate]
        exact small1000 (by omega)
      · rw [upd_ne (ne_of_none e hD)]
        exact s2 _ _ (sG _ _ e)
      · rw [upd_same, List.replicate_succ', List.map_append]
        rfl
    · obtain ⟨sG, hacc⟩ := hP
      refine ⟨D, List.replicate _ true, rfl, SqL.of hacc, ?_⟩
      rw [rep_all]
      refine ⟨_, rfl, iteF ?_⟩
      refine ⟨_, rfl, a, rfl, ⟨_, SqL.of (sG _ _ ha)⟩, fun D2 hD2 => lc_list (K := K) (a := a) (xs := ws) (fun i G2 => Same G G2 ∧ G2 D2 = some (.lst ((List.replicate i true).map V.bl))) ⟨same_new hD2, upd_same⟩ (fun i G2 _ hP => SqL.of (hP.1 _ _ (sG _ _ ha))) (fun i x G2 hx hP => ?_) (fun G2 hP => ?_)⟩
      · obtain ⟨sG2, hacc2⟩ := hP
        obtain ⟨b, r, rfl, hr2, fb⟩ := hs.get hx
        have li := (List.getElem?_eq_some_iff.mp hr2).1
        have wr := sq.2 r (List.mem_of_getElem? hr2)
        obtain ⟨vs, hv, lv, _⟩ := (fb.same (sG.trans sG2)).len
        obtain ⟨b0, e0, f0⟩ := hs.2 0 _ (List.getElem?_eq_getElem (show 0 < A.length by omega))
        have w0 := sq.2 A[0] (List.getElem_mem (show 0 < A.length by omega))
        obtain ⟨us, hu, lu, _⟩ := (f0.same (sG.trans sG2)).len
        refine ⟨rfl, ?_⟩
        refine ⟨_, rfl, b, vs, rfl, .inl (SqL.of hv), _, rfl, a, ws, 0, .ref b0, rfl, rfl, SqL.of (sG2 _ _ (sG _ _ ha)), atI_nat (j := 0) e0, ?_⟩
        refine ⟨b0, us, rfl, .inl (SqL.of hu), rfl, ?_⟩
        rw [dec_int, show (((vs.length : Nat) : Int) == ((us.length : Nat) : Int)) = true by rw [lv, lu, wr, w0]; exact beq_self_eq_true _]
        refine ⟨_, hacc2, ?_, fun b o e => ?_, ?_⟩
        · rw [List.length_map, List.length_replicate]
          exact small1000 (by omega)
        · rw [upd_ne (ne_of_none e hD2)]
          exact sG2 _ _ e
        · rw [upd_same, List.replicate_succ', List.map_append]
          rfl
      · obtain ⟨sG2, hacc2⟩ := hP
        refine ⟨D2, List.replicate _ true, rfl, SqL.of hacc2, ?_⟩
        rw [rep_all]
        exact k _ (sG.trans sG2)
theorem sc_shape_of : FnScope ["matrix"] ["matrix"] (defScope s_shape_of) := ⟨rfl, rfl, rfl, by decide +kernel, rfl, by decide +kernel, by decide +kernel⟩
theorem ok_shape_of {f : Addr} {fd : FuncData} {k : Nat} (F : Fun K "shape_of" "shape_of" s_shape_of f fd) (z : Zs mg) : FnOk P w K mg base CX0 (k + 1) f fd ["matrix"] spShape := by
  refine F.ok sc_shape_of (fun vs H Q E h => ?_) (fun cdv A outer s H vs Q E hr h => ?_)
  · obtain ⟨a, ws, A, rfl, _⟩ := h
    rfl
  · obtain ⟨a, ws, A, rfl, ha, hs, sq, k⟩ := h
    refine ⟨_, (pss_one (ps_ret (pe_tup (pa_cons (pe_callB call_len_seq (by rfl) z.len PySem.boot_len (pa_cons (pv 0) pa_nil)) (pa_cons (pe_ifExp (pt_truth (pv 0) (by intro _; rfl)) (pe_callB call_len_seq (by rfl) z.len PySem.boot_len (pa_cons (pe_ix ix_list (pv 0) pe_int (fun _ _ => rfl)) pa_nil)) pe_int) pa_nil))))), ?_⟩
    have lw := hs.1
    refine ⟨_, rfl, a, _, rfl, .inl (SqL.of ha), ?_⟩
    by_cases c : A.length = 0
    · have c2 : ws = [] := List.length_eq_zero_iff.mp (by omega)
      subst c2
      refine ⟨_, rfl, _, .inl ⟨_, SqL.of ha, rfl⟩, iteF ?_⟩
      have := k
      rw [c] at this
      exact ⟨(by show 2 ≤ sizeLine; decide), fun p hp => this p hp⟩
    · have c2 : ws ≠ [] := fun e => c (by rw [← lw, e]; rfl)
      obtain ⟨b0, e0, f0⟩ := hs.2 0 _ (List.getElem?_eq_getElem (show 0 < A.length by omega))
      have w0 := sq.2 A[0] (List.getElem_mem (show 0 < A.length by omega))
      obtain ⟨us, hu, lu, _⟩ := f0.len
      refine ⟨_, rfl, _, .inl ⟨_, SqL.of ha, rfl⟩, iteC (d := true) (by cases ws with | nil => exact absurd rfl c2 | cons x xs => rfl) (iteT ?_)⟩
      refine ⟨_, rfl, a, ws, 0, .ref b0, rfl, rfl, SqL.of ha, atI_nat (j := 0) e0, b0, us, rfl, .inl (SqL.of hu), ?_⟩
      refine ⟨(by show 2 ≤ sizeLine; decide), fun p hp => ?_⟩
      rw [lw, lu, w0]
      exact k p hp
theorem sc_is_square : FnScope ["thing"] ["thing"] (defScope s_is_square) := ⟨rfl, rfl, rfl, by decide +kernel, rfl, by decide +kernel, by decide +kernel⟩
theorem ok_is_square {f : Addr} {fd : FuncData} (F : Fun K "is_square" "is_square" s_is_square f fd) (z : Zs mg) (c_is_matrix : Cal P w K mg base 5 "is_matrix" ["thing"] spIsMat) (c_shape_of : Cal P w K mg base 1 "shape_of" ["matrix"] spShape) : FnOk P w K mg base CX0 6 f fd ["thing"] spIsMat := by
  refine F.ok sc_is_square (fun vs H Q E h => ?_) (fun cdv A outer s H vs Q E hr h => ?_)
  · obtain ⟨a, ws, A, rfl, _⟩ := h
    rfl
  · obtain ⟨a, ws, A, rfl, ha, hs, sq, k⟩ := h
    refine ⟨_, (pss_one (ps_ret (pe_and (pe_cal c_is_matrix hr (pa_cons (pv 0) pa_nil)) (pe_one (pe_cmpR op_eq (pe_callB call_len_seq (by rfl) z.len PySem.boot_len (pa_cons (pv 0) pa_nil)) (pe_ix ix_tup (pe_cal c_shape_of hr (pa_cons (pv 0) pa_nil)) pe_int (fun _ _ => rfl)) (nomark _)))))), ?_⟩
    have lw := hs.1
    refine ⟨_, rfl, a, ws, A, rfl, ha, hs, sq, fun H1 s1 => ?_⟩
    refine ⟨_, rfl, iteT ?_⟩
    refine ⟨_, rfl, a, _, rfl, .inl (SqL.of (s1 _ _ ha)), _, rfl, a, ws, A, rfl, s1 _ _ ha, hs.same s1, sq, fun p hp => ?_⟩
    refine ⟨p, _, 1, .int (A.length : Nat), rfl, rfl, SqT.of upd_same, a1, rfl, ?_⟩
    rw [dec_int, show (((ws.length : Nat) : Int) == ((A.length : Nat) : Int)) = true by rw [lw]; exact beq_self_eq_true _]
    exact k _ (s1.trans (same_new hp))
theorem sc_signs_of : FnScope ["matrix", "rows", "stepped", "at", "many", "lower", "row", "tops", "bottom", "column"] ["matrix"] (defScope s_signs_of) := ⟨rfl, rfl, rfl, by decide +kernel, rfl, by decide +kernel, by decide +kernel⟩
theorem ok_signs_of {f : Addr} {fd : FuncData} (F : Fun K "signs_of" "signs_of" s_signs_of f fd) (z : Zs mg) (c_cleared : Cal P w K mg base 3 "cleared" ["pairs"] spCleared) (c_stepped_above : Cal P w K mg base 2 "stepped_above" ["rows"] spAbove) (c_cancelled : Cal P w K mg base 4 "cancelled" ["rows", "at", "many"] (spCanc K)) (c_lower_place : Cal P w K mg base 3 "lower_place" ["stepped", "row", "column"] spLoP) (c_pivots_of : Cal P w K mg base 3 "pivots_of" ["stepped", "bottoms"] spPiv) : FnOk P w K mg base CX0 5 f fd ["matrix"] (spSignsOf K) := by
  refine F.ok sc_signs_of (fun vs H Q E h => ?_) (fun cdv A outer s H vs Q E hr h => ?_)
  · obtain ⟨a, ws, ss, rfl, _⟩ := h
    rfl
  · obtain ⟨a, ws, ss, rfl, ha, hs, G, k1, k2⟩ := h
    refine ⟨_, (pss_cons (ps_setLc (i := 1) (own := [("row", 6)]) (g := gName 6) (tt := tYes) (te := (tCall spCleared [] E0 (tCons (tVar 6) tNil))) (by rfl) sc_signs_of.nd rfl rfl (sw_true rfl rfl rfl (by decide +kernel)) (pi_list (pv 0)) (blkOk_by (own := [("row", 6)]) (N := ["matrix", "rows", "stepped", "at", "many", "lower", "row", "tops", "bottom", "column"]) (sc := defScope s_signs_of) (by decide +kernel)) (fun _ _ _ _ _ => by exact (pg_name (i := 6) sc_signs_of.nd rfl (.inl rfl))) (fun _ _ _ _ _ => by exact pts_nil) (fun _ _ _ _ _ => by exact (pe_cal c_cleared hr (pa_cons (pv 6) pa_nil))))
      (pss_cons (ps_asg (pe_cal c_stepped_above hr (pa_cons (pe_lc (own := [("tops", 7), ("bottom", 8)]) (g := gTup K 2 (gCons (gName 7) (gCons (gName 8) gNil))) (tt := tYes) (te := (tVar 7)) (by rfl) sc_signs_of.nd (pi_list (pv 1)) (blkOk_by (own := [("tops", 7), ("bottom", 8)]) (N := ["matrix", "rows", "stepped", "at", "many", "lower", "row", "tops", "bottom", "column"]) (sc := defScope s_signs_of) (by decide +kernel)) (fun _ _ _ _ _ => by exact (pg_tup (by rfl) (pgs_cons (pg_name (i := 7) sc_signs_of.nd rfl (.inl rfl)) (pgs_cons (pg_name (i := 8) sc_signs_of.nd rfl (.inl rfl)) pgs_nil)))) (fun _ _ _ _ _ => by exact pts_nil) (fun _ _ _ _ _ => by exact (pv 7))) pa_nil)) (pg_tup (by rfl) (pgs_cons (pg_name (i := 2) sc_signs_of.nd rfl (.inr rfl)) (pgs_cons (pg_name (i := 3) sc_signs_of.nd rfl (.inl rfl)) pgs_nil))))
      (pss_cons (ps_set (i := 4) sc_signs_of.nd rfl (.inr rfl) (pe_callB call_len_seq (by rfl) z.len PySem.boot_len (pa_cons (pv 0) pa_nil)))
      (pss_cons (ps_if (pt_cmpR op_lt (pv 3) (pv 4) (nomark _)) (pss_one (ps_ret (pe_tup (pa_cons pe_str (pa_cons (pe_cal c_cancelled hr (pa_cons (pv 2) (pa_cons (pv 3) (pa_cons (pv 4) pa_nil)))) pa_nil))))) pss_nil)
      (pss_cons (ps_setLc (i := 5) (own := [("row", 6)]) (g := gName 6) (tt := tYes) (te := (tLc (iRng1 (tCons (tVar 4) tNil)) (gName 9) tYes (tCall spLoP [] E0 (tCons (tVar 2) (tCons (tVar 6) (tCons (tVar 9) tNil)))) (([("column", 9)] : List (Str × Nat)).map (·.2)))) (by rfl) sc_signs_of.nd rfl rfl (sw_true rfl rfl rfl (by decide +kernel)) (pi_range1 (by rfl) z.range (pa_cons (pv 4) pa_nil)) (blkOk_by (own := [("row", 6)]) (N := ["matrix", "rows", "stepped", "at", "many", "lower", "row", "tops", "bottom", "column"]) (sc := defScope s_signs_of) (by decide +kernel)) (fun _ _ _ _ _ => by exact (pg_name (i := 6) sc_signs_of.nd rfl (.inr rfl))) (fun _ _ _ _ _ => by exact pts_nil) (fun _ _ _ _ _ => by exact (@pe_lc _ _ _ _ _ _ _ _ _ _ _ _ (by rfl) sc_signs_of.nd (pi_range1 (by rfl) z.range (pa_cons (pv 4) pa_nil)) (blkOk_by (own := [("column", 9)]) (N := ["matrix", "rows", "stepped", "at", "many", "lower", "row", "tops", "bottom", "column"]) (sc := ({ kind := PySem.ScopeKind.function, names := [(".0", .local), ("row", .cell), ("range", .globalImplicit), ("many", .cell), ("stepped", .cell)], isGenerator := false, isCoroutine := false, more := [] })) (by decide +kernel)) (fun _ _ _ _ _ => by exact (pg_name (i := 9) sc_signs_of.nd rfl (.inl rfl))) (fun _ _ _ _ _ => by exact pts_nil) (fun _ _ _ _ _ => by exact (pe_cal c_lower_place hr (pa_cons (pv 2) (pa_cons (pv 6) (pa_cons (pv 9) pa_nil))))) (by intro _; rfl))))
      (pss_one (ps_ret (pe_tup (pa_cons pe_str (pa_cons (pv 5) (pa_cons (pe_cal c_pivots_of hr (pa_cons (pv 2) (pa_cons (pe_lc (own := [("tops", 7), ("bottom", 8)]) (g := gTup K 2 (gCons (gName 7) (gCons (gName 8) gNil))) (tt := tYes) (te := (tVar 8)) (by rfl) sc_signs_of.nd (pi_list (pv 1)) (blkOk_by (own := [("tops", 7), ("bottom", 8)]) (N := ["matrix", "rows", "stepped", "at", "many", "lower", "row", "tops", "bottom", "column"]) (sc := defScope s_signs_of) (by decide +kernel)) (fun _ _ _ _ _ => by exact (pg_tup (by rfl) (pgs_cons (pg_name (i := 7) sc_signs_of.nd rfl (.inl rfl)) (pgs_cons (pg_name (i := 8) sc_signs_of.nd rfl (.inl rfl)) pgs_nil)))) (fun _ _ _ _ _ => by exact pts_nil) (fun _ _ _ _ _ => by exact (pv 8))) pa_nil))) pa_nil))))))))))), ?_⟩
    have lw := hs.1
    have n10 := G.sq.1
    refine ⟨_, rfl, a, rfl, ⟨_, SqL.of ha⟩, fun D hD => lc_list (K := K) (a := a) (xs := ws) (fun i G2 => Same H G2 ∧ ∃ us, G2 D = some (.lst us) ∧ us.length = i ∧ PrL G2 us (ss.take i)) ⟨same_new hD, [], upd_same, rfl, rfl, (fun i r e => by rw [List.take_zero] at e; cases e)⟩ (fun i G2 _ hP => SqL.of (hP.1 _ _ ha)) (fun i x G2 hx hP => ?_) (fun G2 hP => ?_)⟩
    · obtain ⟨sG, us, hacc, lus, pl⟩ := hP
      obtain ⟨b, s9, rfl, hs9, fb⟩ := hs.get hx
      have hm := List.mem_of_getElem? hs9
      obtain ⟨Dm, bt, _⟩ := G.btm _ hm
      have w9 := G.sq.2 _ hm
      have li := (List.getElem?_eq_some_iff.mp hs9).1
      obtain ⟨vs, hv, lv, hvs⟩ := (fb.same sG).len
      refine ⟨rfl, _, rfl, b, vs, s9.map pr, Dm, rfl, hv, hvs, bt, by rw [List.length_map]; omega, fun Tp l H2 S2 hT hl2 => ?_⟩
      have hacc2 := S2 _ _ hacc
      refine ⟨us, hacc2, small1000 (by omega), fun c o e => ?_, us ++ [.ref Tp], upd_same, by rw [List.length_append, lus]; rfl, ?_⟩
      · rw [upd_ne (ne_of_none e hD)]
        exact S2 _ _ (sG _ _ e)
      · rw [show ss.take (i + 1) = ss.take i ++ [s9] by rw [List.take_succ, hs9]; rfl]
        have n0 : ∀ s ∈ ss.take i ++ [s9], clr s ≠ [] := fun s hs2 e => by
          have ms : s ∈ ss := by
            rcases List.mem_append.mp hs2 with q | q
            · exact List.mem_of_mem_take q
            · rw [List.mem_singleton.mp q]
              exact hm
          have := clr_len s
          rw [e, G.sq.2 s ms] at this
          have : 0 = ss.length := this
          omega
        have both : PrL H2 (us ++ [.ref Tp]) (ss.take i ++ [s9]) := (pl.same S2).app (PrL.one hT hl2)
        have nT : Tp ≠ D := fun z => by
          rw [z, hacc2] at hT
          cases hT
        have nl : l ≠ D := fun z => by
          rw [z, hacc2] at hl2
          have u0 := HO.lst.inj (Option.some.inj hl2)
          have l0 : us.length = ss.length := by
            rw [u0, List.length_map]
            exact (clr_len s9).trans w9
          omega
        refine (PrL.butD (us := us) (pl.same S2) hacc2 (fun s hs2 => n0 s (List.mem_append_left _ hs2)) SameBut.upd).app (PrL.one (b := l) ?_ ?_)
        · rw [upd_ne nT]
          exact hT
        · rw [upd_ne nl]
          exact hl2
    · obtain ⟨sG, us, hacc, lus, pl⟩ := hP
      rw [List.take_of_length_le (by omega)] at pl
      refine ⟨_, rfl, D, rfl, ⟨_, SqL.of hacc⟩, fun D2 hD2 => lc_list (K := K) (a := D) (xs := us) (fun i G3 => Same G2 G3 ∧ ∃ vs, G3 D2 = some (.lst vs) ∧ vs.length = i ∧ RwL G2 vs ((ss.take i).map clr)) ⟨same_new hD2, [], upd_same, rfl, rfl, (fun i r e => by rw [List.take_zero] at e; cases e)⟩ (fun i G3 _ hP => SqL.of (hP.1 _ _ hacc)) (fun i x G3 hx hP => ?_) (fun G3 hP => ?_)⟩
      · obtain ⟨sG3, vs, hacc3, lvs, rw3⟩ := hP
        have hi : i < ss.length := by have := (List.getElem?_eq_some_iff.mp hx).1; omega
        obtain ⟨e9, hm⟩ := G.row hi
        obtain ⟨t, b, f1, f2, f3⟩ := pl.2 i _ e9
        rw [hx] at f1
        cases f1
        refine ⟨t, _, rfl, SqT.of (sG3 _ _ f2), rfl, _, _, rfl, _, _, rfl, rfl, ?_⟩
        refine ⟨rfl, _, rfl, _, hacc3, small1000 (by omega), fun c o e => ?_, vs ++ [.ref b], upd_same, by rw [List.length_append, lvs]; rfl, ?_⟩
        · rw [upd_ne (ne_of_none e hD2)]
          exact sG3 _ _ e
        · rw [show ss.take (i + 1) = ss.take i ++ [ss.getD i []] by rw [List.take_succ, e9]; rfl, List.map_append]
          exact RwL.app rw3 (RwL.one f3)
      · obtain ⟨sG3, vs, hacc3, lvs, rw3⟩ := hP
        rw [List.take_of_length_le (by omega)] at rw3
        refine ⟨D2, vs, ss.map clr, ss.length, rfl, hacc3, rw3.same sG3, G.fine, fun p q us2 rs k H2 s2 hp hq hu2 en9 => ?_⟩
        have lm : (ss.map clr).length = ss.length := List.length_map _
        have S := en9.1
        have kl := S.kle
        have S1 := sG.trans sG3
        have S2 := S1.trans s2
        refine ⟨p, _, rfl, SqT.of hp, rfl, _, _, rfl, _, _, rfl, rfl, ?_⟩
        refine ⟨_, rfl, a, _, rfl, .inl (SqL.of (S2 _ _ ha)), ?_⟩
        refine ⟨_, rfl, _, rfl, _, _, rfl, rfl, _, rfl, ite2 (fun c => ?_) (fun c => ?_)⟩
        · have c1 := toB c
          have kn : k < ss.length := by omega
          refine ⟨_, rfl, _, rfl, _, rfl, q, us2, _, rs, _, id, k, ss.length, by rw [lw]; rfl, hq, hu2, S, G.fine, lm.symm, kn, n10, fun r H3 hr s3 f3 => ?_⟩
          refine ⟨(by show 2 ≤ sizeLine; decide), fun t ht => ?_⟩
          have s4 := same_new (o := .tup [.str "not", .ref r]) ht
          exact k2 t r _ k _ (S2.free hr) (S2.trans (s3.trans s4)) upd_same (f3.same s4) (canc_at kn).1 (en9.no G kn) (fun b N h1 hb big => bddB_canc S h1 hb (by rw [lm]; exact big))
        · have c1 := toNB c
          have kn : k = ss.length := by omega
          subst kn
          obtain ⟨pos, ld, lo9, pv9⟩ := en9.yes G
          rw [lw]
          refine ⟨_, rfl, ss.length, rfl, by omega, by omega, fun D3 hD3 => ?_⟩
          rw [Int.toNat_natCast]
          refine lc_range (lo := 0) (n := ss.length) (fun i X => Same H2 X ∧ ∃ vs9, X D3 = some (.lst vs9) ∧ (∀ v ∈ vs9, v ≠ .ref D3) ∧ SeL X vs9 ((List.range i).map fun i => (List.range ss.length).map fun t => lo (ad ss) i t)) ⟨same_new hD3, [], upd_same, (fun v hv => absurd hv List.not_mem_nil), rfl, fun i r e => by cases e⟩ (fun i X hi hP => ?_) (fun X hP => ?_)
          · obtain ⟨sX, vs9, hacc9, nu9, se9⟩ := hP
            refine ⟨rfl, ?_⟩
            refine ⟨_, rfl, ss.length, rfl, by omega, by omega, fun D4 hD4 => ?_⟩
            rw [Int.toNat_natCast]
            refine lc_range (lo := 0) (n := ss.length) (fun j Y => Same X Y ∧ FrL Y D4 ((List.range j).map fun t => lo (ad ss) i t)) ⟨same_new hD4, [], upd_same, .nil⟩ (fun j Y hj hQ2 => ?_) (fun Y hQ2 => ?_)
            · obtain ⟨sY, vs4, hacc4, fr4⟩ := hQ2
              have sH := sX.trans sY
              refine ⟨rfl, _, rfl, _, rfl, _, rfl, ?_⟩
              refine ⟨q, us2, rs, ss.length, ss.length, i, j, by rw [Int.zero_add, Int.zero_add]; rfl, sH _ _ hq, hu2.same sH, ld, hj, hi, fun p4 H4 hp4 s4 f4 => ?_⟩
              have n4 : p4 ≠ D4 := fun z => by
                rw [z, hacc4] at hp4
                cases hp4
              have lv := FrsAt.len fr4
              rw [List.length_map, List.length_range] at lv
              refine ⟨vs4, s4 _ _ hacc4, small1000 (by omega), fun c o e => ?_, vs4 ++ [.ref p4], upd_same, ?_⟩
              · rw [upd_ne (ne_of_none e hD4)]
                exact s4 _ _ (sY _ _ e)
              · rw [List.range_succ, List.map_append]
                refine FrsAt.app (PrsAt.but (PrsAt.same fr4 s4) SameBut.upd (s4 _ _ hacc4)) (FrsAt.one ?_)
                rw [lo9 i j hi hj] at f4
                show (upd H4 D4 _) p4 = _
                rw [upd_ne n4]
                exact f4
            · obtain ⟨sY, f4⟩ := hQ2
              have n34 : D4 ≠ D3 := fun z => by
                rw [z, hacc9] at hD4
                cases hD4
              have lv := se9.1
              rw [List.length_map, List.length_range] at lv
              refine ⟨vs9, sY _ _ hacc9, small1000 (by omega), fun c o e => ?_, vs9 ++ [.ref D4], upd_same, fun v hv => ?_, ?_⟩
              · rw [upd_ne (ne_of_none e hD3)]
                exact sY _ _ (sX _ _ e)
              · rcases List.mem_append.mp hv with h | h
                · exact nu9 v h
                · rw [List.mem_singleton.mp h]
                  exact fun z => n34 (V.ref.inj z)
              · rw [List.range_succ, List.map_append]
                exact SeL.app ((se9.same sY).butN (sY _ _ hacc9) nu9 SameBut.upd) (SeL.one (f4.but n34 SameBut.upd (sY _ _ hacc9)))
          · obtain ⟨sX, vs9, hacc9, nu9, se9⟩ := hP
            have plX := pl.same ((sG3.trans s2).trans sX)
            have haccX := sX _ _ (s2 _ _ (sG3 _ _ hacc))
            refine ⟨_, rfl, _, rfl, _, rfl, D, rfl, ⟨_, SqL.of haccX⟩, fun D5 hD5 => lc_list (K := K) (a := D) (xs := us) (fun i Y => Same X Y ∧ Y D5 = some (.lst (((List.range i).map (cof ss)).map V.int))) ⟨same_new hD5, upd_same⟩ (fun i Y _ hP => SqL.of (hP.1 _ _ haccX)) (fun i x Y hx hQ2 => ?_) (fun Y hQ2 => ?_)⟩
            · obtain ⟨sY, hacc5⟩ := hQ2
              have hi : i < ss.length := by have := (List.getElem?_eq_some_iff.mp hx).1; omega
              obtain ⟨e9, hm⟩ := G.row hi
              obtain ⟨t, b, f1, f2, f3⟩ := plX.2 i _ e9
              rw [hx] at f1
              cases f1
              refine ⟨t, _, rfl, SqT.of (sY _ _ f2), rfl, _, _, rfl, _, _, rfl, rfl, ?_⟩
              refine ⟨rfl, _, rfl, _, hacc5, ?_, fun c o e => ?_, ?_⟩
              · rw [List.length_map, List.length_map, List.length_range]
                exact small1000 (by omega)
              · rw [upd_ne (ne_of_none e hD5)]
                exact sY _ _ e
              · rw [upd_same, List.range_succ, List.map_append, List.map_append]
                rfl
            · obtain ⟨sY, hacc5⟩ := hQ2
              rw [lus, lw] at hacc5
              have S8 := sX.trans sY
              refine ⟨q, D5, us2, rs, (List.range ss.length).map (cof ss), ss.length, ss.length, rfl, S8 _ _ hq, hu2.same S8, ld, hacc5, by rw [List.length_map, List.length_range], fun b hb => ?_, fun p6 H6 hp6 s6 f6 => ?_⟩
              · obtain ⟨i, hi, rfl⟩ := List.mem_map.mp hb
                have := G.pos (List.mem_range.mp hi)
                exact ⟨by omega, this.2⟩
              · have ef : (List.range ss.length).map (pivR rs ((List.range ss.length).map (cof ss))) = diM (ad ss) ss.length := List.map_congr_left fun i hi => by
                  have li := List.mem_range.mp hi
                  refine pv9 i _ li ?_
                  rw [List.getD_eq_getElem?_getD, List.getElem?_map, List.getElem?_range li]
                  rfl
                rw [ef] at f6
                refine ⟨(by show 3 ≤ sizeLine; decide), fun t ht => ?_⟩
                have s7 := same_new (o := .tup [.str "above", .ref D3, .ref p6]) ht
                have S9 := (sY.trans s6).trans s7
                exact k1 t D3 p6 vs9 _ (S2.free hD3) (S2.trans (sX.trans S9)) upd_same (S9 _ _ hacc9) (se9.same S9) (f6.same s7) pos
end
end E1

namespace E1
open PySem PySem.Spec PyProof.Rows L2
def llD (qss : List (List Rat)) : List PyData := qss.map fun qs => .list (qs.map frD)
theorem ll_lay : ∀ qss : List (List Rat), PyData.canLayAll0 (llD qss) = true
  | [] => rfl
  | qs :: qss => by
    unfold llD
    rw [List.map_cons, PyData.canLayAll0]
    have i := ll_lay qss
    unfold llD at i
    rw [i, Bool.and_true]
    exact SeqAt.canLay_of_shaped (frL_shaped qs)
theorem ll_deep : ∀ qss : List (List Rat), PyData.depthAll (llD qss) ≤ 6
  | [] => by simp [llD, PyData.depthAll]
  | qs :: qss => by
    have i := ll_deep qss
    have j := frDs_deep qs
    unfold llD at *
    simp only [List.map_cons, PyData.depthAll, PyData.depth]
    omega
theorem ll_shaped (qss : List (List Rat)) : SeqAt.shaped (.list (llD qss)) = true := by
  have h1 := ll_deep qss
  have h2 : PyData.depth (.list (llD qss)) ≤ 64 := by simp only [PyData.depth]; omega
  show (PyData.canLay0 (.list (llD qss)) && decide (PyData.depth (.list (llD qss)) ≤ 64)) = true
  rw [Bool.and_eq_true]
  exact ⟨by simp only [PyData.canLay0]; exact ll_lay qss, decide_eq_true h2⟩
theorem ll_eqv (qss : List (List Rat)) : PyData.eqv (.list (llD qss)) (.list (llD qss)) = true := SeqAt.eqv_refl _ (SeqAt.canLay_of_shaped (ll_shaped qss))
theorem FrL.dp {K : PySem.W.Frag} {H : Hp} {a : Addr} {qs : List Rat} (h : FrL H a qs) : Dp K H (.ref a) (.list (qs.map frD)) := by
  obtain ⟨vs, e, r⟩ := h
  exact .lst (SqL.of e) (FrsAt.dp r)

theorem SeL.dpAll {K : PySem.W.Frag} {H : Hp} : ∀ {ss : List (List Rat)} {vs : List V}, SeL H vs ss → DpAll K H vs (llD ss)
  | [], [], _ => .nil
  | [], _ :: _, h => by cases h.1
  | _ :: _, [], h => by cases h.1
  | s :: ss, v :: vs, h => by
    obtain ⟨b, e, f⟩ := h.2 0 s rfl
    cases e
    exact .cons f.dp (SeL.dpAll ⟨Nat.succ.inj h.1, fun i r hr => h.2 (i + 1) r hr⟩)
/-- the rows with what stands in them -/
def RowsIn (H : Hp) : List (Addr × List V) → List (List Rat) → Prop
  | [], [] => True
  | p :: ls, s :: ss => (H p.1 = some (.lst p.2) ∧ FrsAt H p.2 s) ∧ RowsIn H ls ss
  | _, _ => False
theorem RowsIn.len {H : Hp} : ∀ {ls : List (Addr × List V)} {ss : List (List Rat)}, RowsIn H ls ss → ls.length = ss.length
  | [], [], _ => rfl
  | p :: ls, s :: ss, h => congrArg (· + 1) (RowsIn.len h.2)
theorem RowsIn.mem {H : Hp} {c : Nat} : ∀ {ls : List (Addr × List V)} {ss : List (List Rat)}, RowsIn H ls ss → (∀ s ∈ ss, s.length = c) → ∀ p ∈ ls, H p.1 = some (.lst p.2) ∧ p.2.length = c
  | [], [], _, _, p, hp => by cases hp
  | q :: ls, s :: ss, h, w, p, hp => by
    rcases List.mem_cons.mp hp with rfl | hp
    · exact ⟨h.1.1, by rw [FrsAt.len h.1.2, w s (List.mem_cons_self ..)]⟩
    · exact RowsIn.mem h.2 (fun r hr => w r (List.mem_cons_of_mem _ hr)) p hp
theorem RowsIn.same {H H' : Hp} (e : Same H H') : ∀ {ls : List (Addr × List V)} {ss : List (List Rat)}, RowsIn H ls ss → RowsIn H' ls ss
  | [], [], _ => trivial
  | p :: ls, s :: ss, h => ⟨⟨e _ _ h.1.1, PrsAt.same h.1.2 e⟩, RowsIn.same e h.2⟩
theorem SeL.ls {H : Hp} : ∀ {ss : List (List Rat)} {vs : List V}, SeL H vs ss → ∃ ls, vs = ls.map (fun p => V.ref p.1) ∧ RowsIn H ls ss
  | [], [], _ => ⟨[], rfl, trivial⟩
  | [], _ :: _, h => by cases h.1
  | _ :: _, [], h => by cases h.1
  | s :: ss, v :: vs, h => by
    obtain ⟨b, e, f⟩ := h.2 0 s rfl
    cases e
    obtain ⟨ws, e1, e2⟩ := f
    obtain ⟨ls, rfl, r⟩ := SeL.ls (ss := ss) (vs := vs) ⟨Nat.succ.inj h.1, fun i r hr => h.2 (i + 1) r hr⟩
    exact ⟨(b, ws) :: ls, rfl, ⟨e1, e2⟩, r⟩
theorem RowsIn.col {H : Hp} {c j : Nat} (hj : j < c) : ∀ {ls : List (Addr × List V)} {ss : List (List Rat)}, RowsIn H ls ss → (∀ s ∈ ss, s.length = c) → FrsAt H (ls.map fun p => p.2.getD j .non) (ss.map fun s => s.getD j 0)
  | [], [], _, _ => .nil
  | p :: ls, s :: ss, h, w => by
    have ws := w s (List.mem_cons_self ..)
    have e : s[j]? = some (s.getD j 0) := by
      rw [List.getD_eq_getElem?_getD, List.getElem?_eq_getElem (by omega)]
      rfl
    obtain ⟨q, f1, f2⟩ := FrsAt.at h.1.2 e
    have g : p.2.getD j .non = .ref q := by
      rw [List.getD_eq_getElem?_getD, f1]
      rfl
    show PrsAt H (p.2.getD j .non :: _) (pr (s.getD j 0) :: _)
    rw [g]
    exact .cons f2 (RowsIn.col hj h.2 fun r hr => w r (List.mem_cons_of_mem _ hr))
def turnR (ss : List (List Rat)) (c : Nat) : List (List Rat) := (List.range c).map fun j => ss.map fun s => s.getD j 0
theorem turnR_ad {ss : List (List Rat)} {c i j : Nat} (hj : j < c) : ad (turnR ss c) j i = ad ss i j := by
  unfold ad turnR
  have e1 : ((List.range c).map fun j => ss.map fun s => s.getD j (0 : Rat)).getD j [] = ss.map fun s => s.getD j 0 := by
    rw [List.getD_eq_getElem?_getD, List.getElem?_map, List.getElem?_range hj]
    rfl
  rw [e1, List.getD_eq_getElem?_getD, List.getElem?_map, List.getD_eq_getElem?_getD (l := ss)]
  cases ss[i]? with
  | none => simp
  | some r => rfl
theorem turnR_sym {ss : List (List Rat)} (sq : Sq ss) (sy : ∀ i j, i < ss.length → j < ss.length → ad ss i j = ad ss j i) : turnR ss ss.length = ss := by
  have row : ∀ i, i < ss.length → ss[i]? = some (ss.getD i []) ∧ (ss.getD i []).length = ss.length := fun i hi => by
    have e : ss[i]? = some (ss.getD i []) := by
      rw [List.getD_eq_getElem?_getD, List.getElem?_eq_getElem hi]
      rfl
    exact ⟨e, sq.2 _ (List.mem_of_getElem? e)⟩
  refine List.ext_getElem? fun i => ?_
  by_cases hi : i < ss.length
  · obtain ⟨e1, w1⟩ := row i hi
    unfold turnR
    rw [List.getElem?_map, List.getElem?_range hi, e1]
    refine congrArg some (List.ext_getElem? fun j => ?_)
    by_cases hj : j < ss.length
    · obtain ⟨e2, w2⟩ := row j hj
      rw [List.getElem?_map, e2, List.getElem?_eq_getElem (by omega)]
      have s1 := sy j i hj hi
      unfold ad at s1
      show some ((ss.getD j []).getD i 0) = _
      rw [s1, List.getD_eq_getElem?_getD, List.getElem?_eq_getElem (by omega)]
      rfl
    · rw [List.getElem?_eq_none (by rw [List.length_map]; omega), List.getElem?_eq_none (by omega)]
  · rw [List.getElem?_eq_none (by unfold turnR; rw [List.length_map, List.length_range]; omega), List.getElem?_eq_none (by omega)]
/-- rows of one length, at most ten -/
def spTurn : Sp := fun vs H Q _ => ∃ (a : Addr) (ws : List V) (ss : List (List Rat)) (c : Nat), vs = [.ref a] ∧ H a = some (.lst ws) ∧ SeL H ws ss ∧ (∀ s ∈ ss, s.length = c) ∧ ss.length ≤ 10 ∧ c ≤ 100 ∧ (ss = [] → c = 0) ∧
  ∀ p us H', H p = none → Same H H' → H' p = some (.lst us) → SeL H' us (turnR ss c) → Q (.ref p) H'
def SymM (ss : List (List Rat)) : Prop := Sq ss ∧ ∀ i j, i < ss.length → j < ss.length → ad ss i j = ad ss j i
def spIsSym : Sp := fun vs H Q _ => ∃ (a : Addr) (ws : List V) (ss : List (List Rat)), vs = [.ref a] ∧ H a = some (.lst ws) ∧ SeL H ws ss ∧ SymM ss ∧ ∀ H', Same H H' → Q (.bl true) H'
def spChkSym : Sp := fun vs H Q _ => ∃ (a : Addr) (ws : List V) (ss : List (List Rat)), vs = [.ref a] ∧ H a = some (.lst ws) ∧ SeL H ws ss ∧ SymM ss ∧ ∀ H', Same H H' → Q .non H'
section
variable {P : Program} {w : World} {K : PySem.W.Frag} {mg : Str → Option Value} {base : Heap}
theorem sc_turned_over : FnScope ["matrix", "column"] ["matrix"] (defScope s_turned_over) := ⟨rfl, rfl, rfl, by decide +kernel, rfl, by decide +kernel, by decide +kernel⟩
theorem ok_turned_over {f : Addr} {fd : FuncData} {k : Nat} (F : Fun K "turned_over" "turned_over" s_turned_over f fd) (z : Zs mg) : FnOk P w K mg base CX0 (k + 1) f fd ["matrix"] spTurn := by
  refine F.ok sc_turned_over (fun vs H Q E h => ?_) (fun cdv A outer s H vs Q E hr h => ?_)
  · obtain ⟨a, ws, ss, c, rfl, _⟩ := h
    rfl
  · obtain ⟨a, ws, ss, c, rfl, ha, hs, wid, n10, c100, nil0, k⟩ := h
    refine ⟨_, (pss_one (ps_ret (pe_lc (own := [("column", 1)]) (g := gName 1) (tt := tYes) (te := (tCB (fun xs H Q => ∃ p ys, xs = [V.ref p] ∧ (SqL K H p ys ∨ SqT K H p ys) ∧ ∀ l, H l = none → Q (.ref l) (upd H l (.lst ys))) (tCons (tVar 1) tNil))) (by rfl) sc_turned_over.nd (pi_zipS (by rfl) z.zip (pv 0)) (blkOk_by (own := [("column", 1)]) (N := ["matrix", "column"]) (sc := defScope s_turned_over) (by decide +kernel)) (fun _ _ _ _ _ => by exact (pg_name (i := 1) sc_turned_over.nd rfl (.inl rfl))) (fun _ _ _ _ _ => by exact pts_nil) (fun _ _ _ _ _ => by exact (pe_callTy call_list_of (by rfl) z.list (by decide +kernel) (pa_cons (pv 1) pa_nil)))))), ?_⟩
    obtain ⟨ls, rfl, rin⟩ := hs.ls
    have ll := rin.len
    refine ⟨_, rfl, a, c, ls, rfl, SqL.of ha, fun p hp => ⟨SqL.of (rin.mem wid p hp).1, (rin.mem wid p hp).2⟩, by omega, fun D hD => ?_⟩
    have cN : ls = [] → c = 0 := fun z => nil0 (List.length_eq_zero_iff.mp (by rw [← ll, z]; rfl))
    refine lc_it (walk_zipS cN) (fun i G => Same H G ∧ ∃ us, G D = some (.lst us) ∧ (∀ v ∈ us, v ≠ .ref D) ∧ SeL G us (turnR ss i)) ⟨same_new hD, [], upd_same, (fun v hv => absurd hv List.not_mem_nil), rfl, (fun i r e => by cases e)⟩ (fun i G _ hP p hp => ?_) (fun i x G G2 hi hP hY => ?_) (fun G hP => ?_)
    · obtain ⟨e1, e2⟩ := (rin.same hP.1).mem wid p hp
      exact ⟨SqL.of e1, e2⟩
    · obtain ⟨sG, us, hacc, nus, se⟩ := hP
      obtain ⟨Tp, ⟨rfl, nT⟩, rfl⟩ := hY
      have sN := same_new (o := .tup (ls.map fun p => p.2.getD i .non)) nT
      have lv := se.1
      unfold turnR at lv
      rw [List.length_map, List.length_range] at lv
      refine ⟨rfl, _, rfl, Tp, _, rfl, .inr (SqT.of upd_same), fun l hl => ?_⟩
      have sl := same_new (o := .lst (ls.map fun p => p.2.getD i .non)) hl
      have S9 := sN.trans sl
      have hacc2 := S9 _ _ hacc
      have nl : l ≠ D := fun e => by
        rw [e, sN _ _ hacc] at hl
        cases hl
      have fr9 : FrL (upd (upd G Tp (.tup (ls.map fun p => p.2.getD i .non))) l (.lst (ls.map fun p => p.2.getD i .non))) l (ss.map fun s => s.getD i 0) := ⟨_, upd_same, RowsIn.col hi (rin.same (sG.trans S9)) wid⟩
      refine ⟨us, hacc2, small1000 (by omega), fun c o e => ?_, us ++ [.ref l], upd_same, fun v hv => ?_, ?_⟩
      · rw [upd_ne (ne_of_none e hD)]
        exact S9 _ _ (sG _ _ e)
      · rcases List.mem_append.mp hv with h | h
        · exact nus v h
        · rw [List.mem_singleton.mp h]
          exact fun z => nl (V.ref.inj z)
      · unfold turnR
        rw [List.range_succ, List.map_append]
        exact SeL.app ((se.same S9).butN hacc2 nus SameBut.upd) (SeL.one (fr9.but nl SameBut.upd hacc2))
    · obtain ⟨sG, us, hacc, nus, se⟩ := hP
      exact k D us G hD sG hacc se
theorem sc_is_symmetric : FnScope ["thing"] ["thing"] (defScope s_is_symmetric) := ⟨rfl, rfl, rfl, by decide +kernel, rfl, by decide +kernel, by decide +kernel⟩
theorem ok_is_symmetric {f : Addr} {fd : FuncData} (F : Fun K "is_symmetric" "is_symmetric" s_is_symmetric f fd) (z : Zs mg) (c_is_square : Cal P w K mg base 6 "is_square" ["thing"] spIsMat) (c_turned_over : Cal P w K mg base 1 "turned_over" ["matrix"] spTurn) : FnOk P w K mg base CX0 7 f fd ["thing"] spIsSym := by
  refine F.ok sc_is_symmetric (fun vs H Q E h => ?_) (fun cdv A outer s H vs Q E hr h => ?_)
  · obtain ⟨a, ws, ss, rfl, _⟩ := h
    rfl
  · obtain ⟨a, ws, ss, rfl, ha, hs, sy, k⟩ := h
    refine ⟨_, (pss_one (ps_ret (pe_and (pe_cal c_is_square hr (pa_cons (pv 0) pa_nil)) (pe_one (pe_cmpR (op_eqD hr.units) (pv 0) (pe_cal c_turned_over hr (pa_cons (pv 0) pa_nil)) (nomark _)))))), ?_⟩
    refine ⟨_, rfl, a, ws, ss, rfl, ha, hs, sy.1, fun H1 s1 => ?_⟩
    refine ⟨_, rfl, iteT ?_⟩
    have n10 := sy.1.1
    refine ⟨_, rfl, _, rfl, a, ws, ss, ss.length, rfl, s1 _ _ ha, hs.same s1, sy.1.2, sy.1.1, by omega, (fun e => by rw [e]; rfl), fun p us H2 hp s2 hp2 se => ?_⟩
    rw [turnR_sym sy.1 sy.2] at se
    have S2 := s1.trans s2
    refine ⟨.list (llD ss), .list (llD ss), .lst (SqL.of (S2 _ _ ha)) (hs.same S2).dpAll, .lst (SqL.of hp2) se.dpAll, ll_shaped _, ll_shaped _, ?_⟩
    rw [ll_eqv]
    exact k _ S2
theorem sc_check_symmetric : FnScope ["thing"] ["thing"] (defScope s_check_symmetric) := ⟨rfl, rfl, rfl, by decide +kernel, rfl, by decide +kernel, by decide +kernel⟩
theorem ok_check_symmetric {f : Addr} {fd : FuncData} (F : Fun K "check_symmetric" "check_symmetric" s_check_symmetric f fd) (z : Zs mg) (c_is_symmetric : Cal P w K mg base 7 "is_symmetric" ["thing"] spIsSym) : FnOk P w K mg base CX0 8 f fd ["thing"] spChkSym := by
  refine F.ok sc_check_symmetric (fun vs H Q E h => ?_) (fun cdv A outer s H vs Q E hr h => ?_)
  · obtain ⟨a, ws, ss, rfl, _⟩ := h
    rfl
  · obtain ⟨a, ws, ss, rfl, ha, hs, sy, k⟩ := h
    refine ⟨_, (pss_one (ps_if (pt_not (pt_val (pe_cal c_is_symmetric hr (pa_cons (pv 0) pa_nil)))) (pss_one ps_never) pss_nil)), ?_⟩
    exact ⟨_, rfl, a, ws, ss, rfl, ha, hs, sy, fun H1 s1 => ⟨_, rfl, iteF (k _ s1)⟩⟩
theorem sc_signs : FnScope ["matrix"] ["matrix"] (defScope s_signs) := ⟨rfl, rfl, rfl, by decide +kernel, rfl, by decide +kernel, by decide +kernel⟩
theorem ok_signs {f : Addr} {fd : FuncData} (F : Fun K "signs" "signs" s_signs f fd) (z : Zs mg) (c_check_symmetric : Cal P w K mg base 8 "check_symmetric" ["thing"] spChkSym) (c_signs_of : Cal P w K mg base 5 "signs_of" ["matrix"] (spSignsOf K)) : FnOk P w K mg base CX0 9 f fd ["matrix"] (spSignsOf K) := by
  refine F.ok sc_signs (fun vs H Q E h => ?_) (fun cdv A outer s H vs Q E hr h => ?_)
  · obtain ⟨a, ws, ss, rfl, _⟩ := h
    rfl
  · obtain ⟨a, ws, ss, rfl, ha, hs, G, k1, k2⟩ := h
    refine ⟨_, (pss_cons (ps_expr (pe_cal c_check_symmetric hr (pa_cons (pv 0) pa_nil)))
      (pss_one (ps_ret (pe_cal c_signs_of hr (pa_cons (pv 0) pa_nil))))), ?_⟩
    refine ⟨_, rfl, a, ws, ss, rfl, ha, hs, ⟨G.sq, G.sym⟩, fun H1 s1 => ?_⟩
    refine ⟨_, rfl, a, ws, ss, rfl, s1 _ _ ha, hs.same s1, G, fun p l d us H2 hl s2 hp hl2 se fd pos => k1 p l d us H2 (s1.free hl) (s1.trans s2) hp hl2 se fd pos, fun p r xs k H2 hr s2 hp fx lx sh bd => k2 p r xs k H2 (s1.free hr) (s1.trans s2) hp fx lx sh bd⟩
end
end E1

namespace E1
open PySem PySem.Spec PyProof.Rows L2
def SM (D : Int) (M : Nat) (q : Rat) : Prop := Sc D (M * D.natAbs) q
theorem SM.zero {D : Int} {M : Nat} : SM D M 0 := Sc.zero
theorem SM.mono {D : Int} {M N : Nat} {q : Rat} (h : SM D M q) (l : M ≤ N) : SM D N q := Sc.mono h (Nat.mul_le_mul_right _ l)
theorem SM.add {D : Int} {M N : Nat} {q r : Rat} (h : SM D M q) (g : SM D N r) : SM D (M + N) (q + r) := Sc.mono (Sc.add h g) (by rw [Nat.add_mul]; exact Nat.le_refl _)
theorem SM.mul {D E : Int} {M N : Nat} {q r : Rat} (h : SM D M q) (g : SM E N r) : SM (D * E) (M * N) (q * r) := Sc.mono (Sc.mul h g) (by rw [Int.natAbs_mul, Nat.mul_mul_mul_comm]; exact Nat.le_refl _)
theorem SM.grow {D : Int} {M : Nat} {q : Rat} (h : SM D M q) (k : Int) : SM (D * k) M q := Sc.mono (Sc.scale (k := k) h) (by rw [Int.natAbs_mul, Nat.mul_assoc]; exact Nat.le_refl _)
theorem SM.val {D : Int} {M : Nat} {q : Rat} (h : SM D M q) (hD : D ≠ 0) : q.num.natAbs ≤ M * q.den := by
  obtain ⟨n, e, b⟩ := Sc.cross h
  have e2 := congrArg Int.natAbs e
  rw [Int.natAbs_mul, Int.natAbs_mul, Int.natAbs_natCast] at e2
  have := Nat.mul_le_mul_right q.den b
  have d0 : 0 < D.natAbs := Int.natAbs_pos.mpr hD
  refine Nat.le_of_mul_le_mul_right ?_ d0
  rw [e2, Nat.mul_right_comm]
  exact this
theorem SM.neg {D : Int} {M : Nat} {q : Rat} (h : SM D M q) : SM D M (-q) := by
  obtain ⟨n, e, b⟩ := h
  refine ⟨-n, ?_, by rw [Int.natAbs_neg]; exact b⟩
  push_cast
  grind
theorem sg_sm {D : Int} {M : Nat} {f : Nat → Rat} : ∀ n, (∀ i, i < n → SM D M (f i)) → SM D (n * M) (sg f n)
  | 0, _ => .zero
  | n + 1, h => by
    have := (sg_sm n fun i hi => h i (by omega)).add (h n (by omega))
    rw [← Nat.succ_mul] at this
    exact this
theorem sum_sm {D : Int} {M : Nat} : ∀ qs : List Rat, (∀ q ∈ qs, SM D M q) → SM D (qs.length * M) (sumR qs)
  | [], _ => .zero
  | q :: qs, h => by
    have := (h q List.mem_cons_self).add (sum_sm qs fun x hx => h x (List.mem_cons_of_mem _ hx))
    rw [List.length_cons, Nat.succ_mul, Nat.add_comm]
    exact this
theorem Sc.bits {D : Int} {B n : Nat} {q : Rat} (h : Sc D B q) (hD : D ≠ 0) (h1 : D.natAbs < 2 ^ n) (h2 : B < 2 ^ n) : q.num.natAbs < 2 ^ n ∧ ((q.den : Int)).natAbs < 2 ^ n := by
  have d : (q.den : Int).natAbs ∣ D.natAbs := Int.natAbs_dvd_natAbs.mpr h.den
  exact ⟨Nat.lt_of_le_of_lt (h.num hD) h2, Nat.lt_of_le_of_lt (Nat.le_of_dvd (by omega) d) h1⟩
/-- what a step of it makes -/
theorem lowTP {t b : Int} (hb : 0 < b) : t / gI t b = lowT t b ∧ b / gI t b = lowB t b := by
  unfold lowT lowB
  rw [if_neg (by omega), if_neg (by omega)]
  exact ⟨rfl, rfl⟩
def spLowP : Sp := fun vs H Q _ => ∃ t b : Int, vs = [.int t, .int b] ∧ 0 < b ∧ b.natAbs < 2 ^ 8800 ∧ ∀ p, H p = none → Q (.ref p) (upd H p (.tup [.int (lowT t b), .int (lowB t b)]))
def spOne : Sp := fun vs H Q _ => ∃ (w a : Addr) (c : Int) (us : List V), vs = [.ref w, .ref a] ∧ WellAt H w c ∧ c ≤ 100000000 ∧ a ≠ w ∧ H a = some (.lst us) ∧ 0 < us.length ∧ us.length ≤ 1000 ∧ ∀ v ∈ us, ∀ H', SameBut w H H' → (∀ b, H b = none → H' b = none) → WellAt H' w (c + 1) → Q v H'
theorem WellAt.ne {H : Hp} {a p : Addr} {c : Int} (h : WellAt H a c) (n : H p = none) : p ≠ a := fun e => by
  obtain ⟨_, _, _, z, _⟩ := h
  rw [← e, n] at z
  cases z
theorem but_free {H H' : Hp} {w p : Addr} (s : SameBut w H H') (h : H' p = none) (n : p ≠ w) : H p = none := by
  cases e : H p with
  | none => rfl
  | some o =>
    rw [s _ _ n e] at h
    cases h
theorem PrsAt.well {H H' : Hp} {w : Addr} {c : Int} {vs : List V} {ps : List (Int × Int)} (h : PrsAt H vs ps) (s : SameBut w H H') (hw : WellAt H w c) : PrsAt H' vs ps := by
  obtain ⟨_, _, _, e, _⟩ := hw
  exact h.but s e
theorem Fr.well {H H' : Hp} {w p : Addr} {c : Int} {q : Rat} (h : Fr H p q) (s : SameBut w H H') (hw : WellAt H w c) : Fr H' p q := by
  obtain ⟨_, _, _, e, _⟩ := hw
  exact s _ _ (ne_of h e (fun z => nomatch z)) h
theorem plus_div (q : Rat) {n o : Int} (ho : 0 < o) : Rat.divInt (q.num * o + n * q.den) (q.den * o) = q + Rat.divInt n o := by
  apply div_is (Int.mul_ne_zero (den_ne q) (by omega))
  have a := q_eq q
  have b := div_q (t := n) (b := o) (by omega)
  push_cast at *
  grind
theorem FrL.well {H H' : Hp} {w a : Addr} {c : Int} {qs : List Rat} (h : FrL H a qs) (s : SameBut w H H') (hw : WellAt H w c) (n : a ≠ w) : FrL H' a qs := by
  obtain ⟨vs, e, r⟩ := h
  exact ⟨vs, s _ _ n e, PrsAt.well r s hw⟩
theorem FrL.app {H : Hp} {a b p : Addr} {xs ys : List Rat} {vs ws : List V} (h : H a = some (.lst vs)) (hv : FrsAt H vs xs) (hw : FrsAt H ws ys) (hp : H p = none) : FrL (upd H p (.lst (vs ++ ws))) p (xs ++ ys) := ⟨_, upd_same, PrsAt.same (FrsAt.app hv hw) (same_new hp)⟩

def Pl (kd : Int) (q : Rat) : Prop := (kd = 0 → SM 12 3 q) ∧ (kd ≠ 0 → q.num.natAbs ≤ 1000000000 ∧ q.den ≤ 1000000000)
def spPlace : Sp := fun vs H Q _ => ∃ (w : Addr) (c kd : Int), vs = [.ref w, .int kd] ∧ WellAt H w c ∧ c ≤ 10000000 ∧ ∀ p q H', H p = none → SameBut w H H' → WellAt H' w (c + 2) → Fr H' p q → Pl kd q → Q (.ref p) H'
theorem pl_small {t b : Int} (ht : t.natAbs ≤ 3) (hb : 1 ≤ b ∧ b ≤ 4) : SM 12 3 (Rat.divInt t b) := by
  have d := div_q (t := t) (b := b) (by omega)
  have hd : b ∣ 12 := by
    have : b = 1 ∨ b = 2 ∨ b = 3 ∨ b = 4 := by omega
    rcases this with rfl | rfl | rfl | rfl <;> decide
  obtain ⟨k, hk⟩ := hd
  have hk' : ((12 : Int) : Rat) = (b : Rat) * (k : Rat) := by
    rw [hk]
    push_cast
    rfl
  refine ⟨t * k, ?_, ?_⟩
  · rw [hk']
    push_cast at *
    grind
  · have kl : k.natAbs ≤ 12 := by
      have e : (12 : Int).natAbs = b.natAbs * k.natAbs := by rw [hk, Int.natAbs_mul]
      have : k.natAbs ≤ b.natAbs * k.natAbs := Nat.le_mul_of_pos_left _ (by omega)
      omega
    rw [Int.natAbs_mul]
    exact Nat.mul_le_mul ht kl
theorem pl_div {t b : Int} (hb : 0 < b) (h1 : b ≤ 1000000000) (h2 : t.natAbs ≤ 1000000000) : (Rat.divInt t b).num.natAbs ≤ 1000000000 ∧ (Rat.divInt t b).den ≤ 1000000000 := by
  have s : Sc b t.natAbs (Rat.divInt t b) := ⟨t, div_q (by omega), Nat.le_refl _⟩
  have d := Nat.le_of_dvd (by omega) (Int.natAbs_dvd_natAbs.mpr s.den)
  have n := s.num (by omega)
  exact ⟨by omega, by omega⟩
/-- the sum of the products, place by place -/
def pairsL : List Rat → List Rat → List (Int × Int)
  | x :: xs, y :: ys => (x.num * y.num, (x.den * y.den : Int)) :: pairsL xs ys
  | _, _ => []
theorem pairs_take : ∀ (xs ys : List Rat) (i : Nat) (x y : Rat), xs[i]? = some x → ys[i]? = some y → pairsL (xs.take (i + 1)) (ys.take (i + 1)) = pairsL (xs.take i) (ys.take i) ++ [(x.num * y.num, (x.den * y.den : Int))]
  | a :: xs, b :: ys, 0, x, y, h1, h2 => by
    cases h1
    cases h2
    rfl
  | a :: xs, b :: ys, i + 1, x, y, h1, h2 => by
    show (a.num * b.num, (a.den * b.den : Int)) :: pairsL (xs.take (i + 1)) (ys.take (i + 1)) = (a.num * b.num, (a.den * b.den : Int)) :: (pairsL (xs.take i) (ys.take i) ++ _)
    rw [pairs_take xs ys i x y h1 h2]
  | [], _, _, _, _, h1, _ => by cases h1
  | _ :: _, [], _, _, _, _, h2 => by cases h2
theorem pairs_mem : ∀ {xs ys : List Rat} {p : Int × Int}, p ∈ pairsL xs ys → ∃ x ∈ xs, ∃ y ∈ ys, p = (x.num * y.num, (x.den * y.den : Int))
  | [], ys, p, h => by cases ys <;> cases h
  | x :: xs, [], p, h => by cases h
  | x :: xs, y :: ys, p, h => by
    rcases List.mem_cons.mp h with h | h
    · exact ⟨x, List.mem_cons_self, y, List.mem_cons_self, h⟩
    · obtain ⟨a, ha, b, hb, e⟩ := pairs_mem h
      exact ⟨a, List.mem_cons_of_mem _ ha, b, List.mem_cons_of_mem _ hb, e⟩
theorem pairs_sum : ∀ (xs ys : List Rat), sumR ((pairsL xs ys).map fun p => Rat.divInt p.1 p.2) = dotR xs ys
  | [], ys => by cases ys <;> rfl
  | x :: xs, [] => rfl
  | x :: xs, y :: ys => by
    show Rat.divInt (x.num * y.num) (x.den * y.den : Int) + sumR ((pairsL xs ys).map fun p => Rat.divInt p.1 p.2) = x * y + dotR xs ys
    rw [pairs_sum xs ys, times_q]

def spSumQ : Sp := fun vs H Q _ => ∃ (a : Addr) (ws : List V) (ps : List (Int × Int)) (p1 p2 : Nat), vs = [.ref a] ∧ H a = some (.lst ws) ∧ PrsAt H ws ps ∧ ps.length ≤ 100 ∧ (0 < p1 ∧ 0 < p2 ∧ p1 + p2 ≤ 8700) ∧ (∀ p ∈ ps, 0 < p.2 ∧ p.2.natAbs < 2 ^ p1 ∧ p.1.natAbs < 2 ^ p1) ∧
  (∀ k, k ≤ ps.length → (sumR ((ps.take k).map fun p => Rat.divInt p.1 p.2)).num.natAbs < 2 ^ p2 ∧ (sumR ((ps.take k).map fun p => Rat.divInt p.1 p.2)).den < 2 ^ p2) ∧
  ∀ p H', H p = none → Same H H' → Fr H' p (sumR (ps.map fun p => Rat.divInt p.1 p.2)) → Q (.ref p) H'
/-- sizes of a fraction -/
def Bq (n : Nat) (q : Rat) : Prop := q.num.natAbs < 2 ^ n ∧ q.den < 2 ^ n
theorem Bq.mono {n m : Nat} {q : Rat} (h : Bq n q) (l : n ≤ m) : Bq m q := ⟨Nat.lt_of_lt_of_le h.1 (Nat.pow_le_pow_right (by decide) l), Nat.lt_of_lt_of_le h.2 (Nat.pow_le_pow_right (by decide) l)⟩
/-- what a sum of products asks -/
structure DotOk (xs ys : List Rat) (p1 p2 : Nat) : Prop where
  len : xs.length = ys.length
  l10 : ys.length ≤ 10
  z1 : 0 < p1
  z2 : 0 < p2
  bit : p1 + p2 ≤ 8700
  x : ∀ q ∈ xs, Bq 4400 q
  y : ∀ q ∈ ys, Bq 4400 q
  each : ∀ (k : Nat) (a b : Rat), xs[k]? = some a → ys[k]? = some b → (a.num * b.num).natAbs < 2 ^ p1 ∧ a.den * b.den < 2 ^ p1
  part : ∀ k, k ≤ xs.length → Bq p2 (dotR (xs.take k) (ys.take k))
def spLDot (K : PySem.W.Frag) : Sp := fun vs H Q _ => ∃ (a c : Addr) (xs ys : List Rat) (p1 p2 : Nat), vs = [.ref a, .ref c] ∧ FrLK K H a xs ∧ FrLK K H c ys ∧ DotOk xs ys p1 p2 ∧ ∀ p H', H p = none → Same H H' → Fr H' p (dotR xs ys) → Q (.ref p) H'
theorem pairs_cut : ∀ (xs ys : List Rat) (k : Nat), (pairsL xs ys).take k = pairsL (xs.take k) (ys.take k)
  | [], ys, k => by cases ys <;> cases k <;> rfl
  | x :: xs, [], k => by cases k <;> rfl
  | x :: xs, y :: ys, 0 => rfl
  | x :: xs, y :: ys, k + 1 => congrArg _ (pairs_cut xs ys k)
theorem pairs_at : ∀ (xs ys : List Rat) (p : Int × Int), p ∈ pairsL xs ys → ∃ (k : Nat) (a b : Rat), xs[k]? = some a ∧ ys[k]? = some b ∧ p = (a.num * b.num, (a.den * b.den : Int))
  | [], ys, p, h => by cases ys <;> cases h
  | x :: xs, [], p, h => by cases h
  | x :: xs, y :: ys, p, h => by
    rcases List.mem_cons.mp h with h | h
    · exact ⟨0, x, y, rfl, rfl, h⟩
    · obtain ⟨k, a, b, h1, h2, e⟩ := pairs_at xs ys p h
      exact ⟨k + 1, a, b, h1, h2, e⟩
section
variable {P : Program} {w : World} {K : PySem.W.Frag} {mg : Str → Option Value} {base : Heap}
theorem sc__law_cell_at : FnScope ["_law_script", "_law_k"] ["_law_script", "_law_k"] (defScope s__law_cell_at) := ⟨rfl, rfl, rfl, by decide +kernel, rfl, by decide +kernel, by decide +kernel⟩
theorem sc__law_well : FnScope ["_law_cell"] ["_law_cell"] (defScope s__law_well) := ⟨rfl, rfl, rfl, by decide +kernel, rfl, by decide +kernel, by decide +kernel⟩
theorem sc__law_draw : FnScope ["_law_well_here", "_law_many", "_law_digit", "_law_number"] ["_law_well_here", "_law_many"] (defScope s__law_draw) := ⟨rfl, rfl, rfl, by decide +kernel, rfl, by decide +kernel, by decide +kernel⟩
theorem ok_cell {f : Addr} {fd : FuncData} {k : Nat} (F : Fun K "_law_cell_at" "_law_cell_at" s__law_cell_at f fd) (zl : mg "len" = none) : FnOk P w K mg base CX0 (k + 1) f fd ["_law_script", "_law_k"] (spCell K) := by
  refine F.ok sc__law_cell_at (fun vs H Q E h => ?_) (fun cdv A outer s H vs Q E hr h => ?_)
  · obtain ⟨a, ns, k, rfl, _⟩ := h
    rfl
  · obtain ⟨a, ns, k, rfl, hS, q⟩ := h
    refine ⟨_, (pss_cons (ps_if (pt_cmpR op_lt (pv 1) (pe_callB call_len_seq (by rfl) zl PySem.boot_len (pa_cons (pv 0) pa_nil)) (nomark _)) (pss_one (ps_ret (pe_ix ix_list (pv 0) (pv 1) (fun _ _ => rfl)))) pss_nil)
      (pss_one (ps_ret pe_int))), ?_⟩
    refine ⟨_, rfl, _, rfl, a, _, rfl, .inl hS, _, _, rfl, rfl, _, rfl, ite2 (fun c => ?_) (fun c => ?_)⟩
    · have hk : k < ns.length := by
        have := toB c
        rw [List.length_map] at this
        omega
      refine ⟨_, rfl, _, rfl, a, _, k, .int (ns.getD k 0), rfl, rfl, hS, atI_nat ?_, q⟩
      rw [List.getElem?_map, List.getElem?_eq_getElem hk, List.getD_eq_getElem?_getD, List.getElem?_eq_getElem hk]
      rfl
    · have hk : ¬ k < ns.length := fun z => by
        have := toNB c
        rw [List.length_map] at this
        omega
      have e : ns.getD k 0 = 0 := by
        rw [List.getD_eq_getElem?_getD, List.getElem?_eq_none (by omega)]
        rfl
      rw [e] at q
      exact q
theorem ok_well {f : Addr} {fd : FuncData} {k : Nat} (F : Fun K "_law_well" "_law_well" s__law_well f fd) (zi : mg "int" = none) : FnOk P w K mg base CX0 (k + 1) f fd ["_law_cell"] spWell := by
  refine F.ok sc__law_well (fun vs H Q E h => ?_) (fun cdv A outer s H vs Q E hr h => ?_)
  · obtain ⟨c, rfl, _⟩ := h
    rfl
  · obtain ⟨c, rfl, q⟩ := h
    refine ⟨_, (pss_one (ps_ret (pe_lst (pa_cons (pe_op op_mul (pv 0) (pe_callTy call_int1 (by rfl) zi (by decide +kernel) (pa_cons (pe_cmpR op_ge (pv 0) (pe_op op_pow pe_int pe_int) (nomark _)) pa_nil))) (pa_cons (pe_op op_mod (pv 0) pe_int) (pa_cons pe_int pa_nil)))))), ?_⟩
    refine ⟨_, rfl, _, rfl, _, _, rfl, rfl, ⟨by decide, by decide, by decide⟩, _, _, rfl, rfl, .inr ⟨_, rfl, _, _, rfl, rfl, .inr ?_, ?_⟩⟩
    · split <;> decide
    · refine ⟨_, rfl, _, _, rfl, rfl, (by show (0 : Int) < 2147483647; decide), (by show 3 ≤ sizeLine; decide), fun p hp => ?_⟩
      exact q p hp _ (same_new hp) ⟨_, _, _, upd_same, Int.emod_nonneg _ (by decide), Int.emod_lt_of_pos _ (by decide), Int.le_refl _, Int.le_refl _⟩

theorem ok_draw {f : Addr} {fd : FuncData} {k : Nat} (F : Fun K "_law_draw" "_law_draw" s__law_draw f fd) : FnOk P w K mg base CX0 (k + 1) f fd ["_law_well_here", "_law_many"] spDraw := by
  refine F.ok sc__law_draw (fun vs H Q E h => ?_) (fun cdv A outer s H vs Q E hr h => ?_)
  · obtain ⟨a, c, m, rfl, _⟩ := h
    rfl
  · obtain ⟨a, c, m, rfl, ⟨x, y, z, hw, y0, y1, z0, z1⟩, hc, m0, m1, q⟩ := h
    have fr : ∀ o b, H b = none → (upd H a o) b = none := fun o b hb => by
      rw [upd_ne (fun e => by rw [e, hw] at hb; cases hb)]
      exact hb
    refine ⟨_, (pss_cons (ps_if (pt_cmpR op_gt (pe_ix ix_list (pv 0) pe_int (fun _ _ => rfl)) pe_int (nomark _)) (pss_cons (ps_set (i := 2) sc__law_draw.nd rfl (.inl rfl) (pe_op op_mod (pe_ix ix_list (pv 0) pe_int (fun _ _ => rfl)) (pv 1)))
      (pss_cons (ps_asg (pe_op op_fdivW (pe_ix ix_list (pv 0) pe_int (fun _ _ => rfl)) (pv 1)) (pg_sub (pv 0) pe_int set_list))
      (pss_one (ps_ret (pv 2))))) pss_nil)
      (pss_cons (ps_asg (pe_op op_add (pe_ix ix_list (pv 0) pe_int (fun _ _ => rfl)) pe_int) (pg_sub (pv 0) pe_int set_list))
      (pss_cons (ps_set (i := 3) sc__law_draw.nd rfl (.inl rfl) (pe_op op_mod (pe_op op_pow (pe_op op_add (pe_op op_add (pe_ix ix_list (pv 0) pe_int (fun _ _ => rfl)) (pe_op op_mul pe_int (pe_ix ix_list (pv 0) pe_int (fun _ _ => rfl)))) pe_int) pe_int) pe_int))
      (pss_cons (ps_set (i := 3) sc__law_draw.nd rfl (.inl rfl) (pe_op op_mod (pe_op op_mul (pv 3) (pe_op op_add (pe_op op_fdiv (pv 3) pe_int) pe_int)) pe_int))
      (pss_one (ps_ret (pe_op op_mod (pe_op op_fdiv (pe_op op_mod (pe_op op_mul (pv 3) (pe_op op_add (pe_op op_add (pe_op op_fdiv (pv 3) pe_int) pe_int) (pe_ix ix_list (pv 0) pe_int (fun _ _ => rfl)))) pe_int) pe_int) (pv 1)))))))), ?_⟩
    refine ⟨_, rfl, a, _, 0, .int x, rfl, rfl, SqL.of hw, a0, x, 0, rfl, rfl, _, rfl, ite2 (fun c => ?_) (fun c => ?_)⟩
    · refine ⟨_, rfl, a, _, 0, .int x, rfl, rfl, SqL.of hw, a0, _, rfl, x, m, rfl, rfl, m0, ?_⟩
      refine ⟨_, rfl, a, _, 0, .int x, rfl, rfl, SqL.of hw, a0, _, rfl, x, m, rfl, rfl, wide_div m0 m1 (by decide) (Nat.le_refl _), _, rfl, a, _, 0, 0, rfl, rfl, hw, rfl, ?_⟩
      refine ⟨_, rfl, q _ _ (Int.emod_nonneg _ (by omega)) (Int.emod_lt_of_pos _ m0) SameBut.upd (fr _) ⟨_, _, _, upd_same, y0, y1, z0, by omega⟩⟩
    · refine ⟨_, rfl, a, _, 2, .int z, rfl, rfl, SqL.of hw, a2, z, 1, rfl, rfl, _, rfl, a, _, 2, 2, rfl, rfl, hw, rfl, ?_⟩
      have hw2 : (upd H a (.lst [V.int x, V.int y, V.int (z + 1)])) a = some (.lst [V.int x, V.int y, V.int (z + 1)]) := upd_same
      have n5 : 0 ≤ y + 7919 * (z + 1) + 1 ∧ y + 7919 * (z + 1) + 1 < 18446744073709551616 := by omega
      refine ⟨_, rfl, a, _, 1, .int y, rfl, rfl, SqL.of hw2, a1, _, rfl, a, _, 2, .int (z + 1), rfl, rfl, SqL.of hw2, a2, _, _, rfl, rfl, .inl ⟨by decide, by decide⟩, _, _, rfl, rfl, _, _, rfl, rfl, _, _, rfl, rfl, ⟨by decide, by decide, ?_⟩, _, _, rfl, rfl, (by show (0 : Int) < 2147483629; decide), ?_⟩
      · show (y + 7919 * (z + 1) + 1).natAbs < 18446744073709551616
        omega
      · generalize hn : (y + 7919 * (z + 1) + 1) ^ (3 : Int).toNat % 2147483629 = n
        have n0 : 0 ≤ n := by rw [← hn]; exact Int.emod_nonneg _ (by decide)
        have n1 : n < 2147483629 := by rw [← hn]; exact Int.emod_lt_of_pos _ (by decide)
        refine ⟨_, rfl, _, rfl, _, _, rfl, rfl, ⟨by decide, by decide⟩, _, _, rfl, rfl, _, _, rfl, rfl, .inl ⟨by omega, by omega⟩, _, _, rfl, rfl, (by show (0 : Int) < 2147483587; decide), ?_⟩
        generalize hm : n * (n / 1009 + 69621) % 2147483587 = u
        have u0 : 0 ≤ u := by rw [← hm]; exact Int.emod_nonneg _ (by decide)
        have u1 : u < 2147483587 := by rw [← hm]; exact Int.emod_lt_of_pos _ (by decide)
        refine ⟨_, rfl, _, rfl, _, _, rfl, rfl, ⟨by decide, by decide⟩, _, _, rfl, rfl, _, rfl, a, _, 2, .int (z + 1), rfl, rfl, SqL.of hw2, a2, _, _, rfl, rfl, _, _, rfl, rfl, .inl ⟨by omega, by omega⟩, _, _, rfl, rfl, (by show (0 : Int) < 2147483579; decide), _, _, rfl, rfl, ⟨by decide, by decide⟩, _, rfl, _, _, rfl, rfl, m0, ?_⟩
        exact q _ _ (Int.emod_nonneg _ (by omega)) (Int.emod_lt_of_pos _ m0) SameBut.upd (fr _) ⟨_, _, _, upd_same, y0, y1, by omega, by omega⟩
theorem sc__law_one : FnScope ["_law_well_here", "_law_some"] ["_law_well_here", "_law_some"] (defScope s__law_one) := ⟨rfl, rfl, rfl, by decide +kernel, rfl, by decide +kernel, by decide +kernel⟩
theorem ok__law_one {f : Addr} {fd : FuncData} (F : Fun K "_law_one" "_law_one" s__law_one f fd) (z : Zs mg) (c__law_draw : Cal P w K mg base 1 "_law_draw" ["_law_well_here", "_law_many"] spDraw) : FnOk P w K mg base CX0 2 f fd ["_law_well_here", "_law_some"] spOne := by
  refine F.ok sc__law_one (fun vs H Q E h => ?_) (fun cdv A outer s H vs Q E hr h => ?_)
  · obtain ⟨w1, a, c, us, rfl, _⟩ := h
    rfl
  · obtain ⟨w1, a, c, us, rfl, hw, hc, ne, ha, l0, l1, q⟩ := h
    refine ⟨_, (pss_one (ps_ret (pe_ix ix_list (pv 1) (pe_cal c__law_draw hr (pa_cons (pv 0) (pa_cons (pe_callB call_len_seq (by rfl) z.len PySem.boot_len (pa_cons (pv 1) pa_nil)) pa_nil))) (fun _ _ => rfl)))), ?_⟩
    refine ⟨_, rfl, _, rfl, _, rfl, a, _, rfl, .inl (SqL.of ha), w1, c, _, rfl, hw, by omega, by omega, ?_, fun r H1 r0 r1 d1 f1 w2 => ?_⟩
    · exact Nat.lt_of_le_of_lt (show ((us.length : Int)).natAbs ≤ 1000 by omega) (up (show 1000 < 2 ^ 10 by decide) (by decide))
    · obtain ⟨k, rfl⟩ : ∃ k : Nat, r = k := ⟨r.toNat, by omega⟩
      have hk : k < us.length := by omega
      exact ⟨a, _, _, _, rfl, rfl, SqL.of (d1 _ _ ne ha), atI_nat (List.getElem?_eq_getElem hk), q _ (List.getElem_mem hk) H1 d1 f1 w2⟩
theorem sc__law_low : FnScope ["_law_top", "_law_bottom", "_law_one_here", "_law_other"] ["_law_top", "_law_bottom"] (defScope s__law_low) := ⟨rfl, rfl, rfl, by decide +kernel, rfl, by decide +kernel, by decide +kernel⟩
theorem ok__law_low {f : Addr} {fd : FuncData} {k : Nat} (F : Fun K "_law_low" "_law_low" s__law_low f fd) (z : Zs mg) : FnOk P w K mg base CX0 (k + 1) f fd ["_law_top", "_law_bottom"] spLowP := by
  refine F.ok sc__law_low (fun vs H Q E h => ?_) (fun cdv A outer s H vs Q E hr h => ?_)
  · obtain ⟨t, b, rfl, _⟩ := h
    rfl
  · obtain ⟨t, b, rfl, hb, hl, q⟩ := h
    refine ⟨_, (pss_cons (ps_par (i := 2) (j := 3) (by rfl) sc__law_low.nd rfl rfl (by decide) rfl rfl (pa_cons (pe_callB call_abs (by rfl) z.abs (by decide +kernel) (pa_cons (pv 0) pa_nil)) (pa_cons (pv 1) pa_nil)) (by rfl))
      (pss_cons (ps_while PassesOwn.never (pt_cmpR op_gt (pv 3) pe_int (nomark _)) (pss_one (ps_par (i := 2) (j := 3) (by rfl) sc__law_low.nd rfl rfl (by decide) rfl rfl (pa_cons (pv 3) (pa_cons (pe_op op_mod (pv 2) (pv 3)) pa_nil)) (by rfl))))
      (pss_one (ps_ret (pe_tup (pa_cons (pe_op op_fdivW (pv 0) (pv 2)) (pa_cons (pe_op op_fdivW (pv 1) (pv 2)) pa_nil))))))), ?_⟩
    have g0 := gI_pos (t := t) (b := b) (by omega)
    have g1 : (gI t b).natAbs < 2 ^ 8800 := Nat.lt_of_le_of_lt (gI_le (by omega)) hl
    refine ⟨_, rfl, _, rfl, _, rfl, _, _, rfl, ?_⟩
    dsimp only [gName, tSeq]
    refine while_by (fun σ H' => H' = H ∧ ∃ m n : Nat, σ = [some (.int t), some (.int b), some (.int (m : Int)), some (.int (n : Int))] ∧ Nat.gcd m n = Int.gcd t b)
      (fun σ _ => match σ with | [_, _, _, some (.int r)] => r.toNat | _ => 0) ⟨rfl, t.natAbs, b.natAbs, ?_, rfl⟩ (fun σ H1 hP => ?_) (fun σ H Q Q' m hh => ?_)
    · have e1 : (if t < 0 then -t else t) = (t.natAbs : Int) := by split <;> omega
      have e2 : b = (b.natAbs : Int) := by omega
      show [some (V.int t), some (V.int b), some (V.int (if t < 0 then -t else t)), some (V.int b)] = _
      rw [e1, ← e2]
    · obtain ⟨rfl, m, n, rfl, hg⟩ := hP
      refine ⟨_, rfl, _, _, rfl, rfl, _, rfl, ite2 (fun c => ?_) (fun c => ?_)⟩
      · have hn := toB c
        refine ⟨_, rfl, _, rfl, _, rfl, _, _, rfl, rfl, (by omega), _, _, rfl, ⟨⟨rfl, n, m % n, rfl, ?_⟩, ?_⟩⟩
        · rw [← hg, Nat.gcd_comm n (m % n), ← Nat.gcd_rec n m, Nat.gcd_comm]
        · show ((m : Int) % (n : Int)).toNat < ((n : Int)).toNat
          have := Int.emod_lt_of_pos (m : Int) (show (0 : Int) < n by omega)
          have := Int.emod_nonneg (m : Int) (show (n : Int) ≠ 0 by omega)
          omega
      · have hn := toNB c
        have e0 : n = 0 := by omega
        subst e0
        rw [Nat.gcd_zero_right] at hg
        have e2 : (m : Int) = gI t b := by
          unfold gI
          rw [hg]
        rw [e2]
        refine ⟨_, rfl, _, rfl, _, _, rfl, rfl, wide_div g0 g1 (by decide) (by decide), _, rfl, _, rfl, _, _, rfl, rfl, wide_div g0 g1 (by decide) (by decide), (by show 2 ≤ sizeLine; decide), fun p hp => ?_⟩
        have := q p hp
        rw [← (lowTP hb).1, ← (lowTP hb).2] at this
        exact this
    · obtain ⟨v, e, i, j, e1, e2, kk, ek, hq⟩ := hh
      exact ⟨v, e, i, j, e1, e2, kk, ek, m _ _ hq⟩
theorem sc__law_sum : FnScope ["_law_some", "_law_top", "_law_bottom", "_law_one_here", "_law_other"] ["_law_some"] (defScope s__law_sum) := ⟨rfl, rfl, rfl, by decide +kernel, rfl, by decide +kernel, by decide +kernel⟩
theorem ok__law_sum {f : Addr} {fd : FuncData} (F : Fun K "_law_sum" "_law_sum" s__law_sum f fd) (c__law_low : Cal P w K mg base 1 "_law_low" ["_law_top", "_law_bottom"] spLowP) : FnOk P w K mg base CX0 2 f fd ["_law_some"] spSumQ := by
  refine F.ok sc__law_sum (fun vs H Q E h => ?_) (fun cdv A outer s H vs Q E hr h => ?_)
  · obtain ⟨a, ws, ps, p1, p2, rfl, _⟩ := h
    rfl
  · obtain ⟨a, ws, ps, p1, p2, rfl, ha, hp0, hl, ⟨p10, p20, p12⟩, hps, hpt, q⟩ := h
    refine ⟨_, (pss_cons (ps_asg (pe_tup (pa_cons pe_int (pa_cons pe_int pa_nil))) (pg_tup (by rfl) (pgs_cons (pg_name (i := 1) sc__law_sum.nd rfl (.inl rfl)) (pgs_cons (pg_name (i := 2) sc__law_sum.nd rfl (.inl rfl)) pgs_nil))))
      (pss_cons (ps_for PassesOwn.never rfl (pi_list (pv 0)) (pg_tup (by rfl) (pgs_cons (pg_name (i := 3) sc__law_sum.nd rfl (.inl rfl)) (pgs_cons (pg_name (i := 4) sc__law_sum.nd rfl (.inl rfl)) pgs_nil))) (pss_one (ps_asg (pe_cal c__law_low hr (pa_cons (pe_op op_add (pe_op op_mulW (pv 1) (pv 4)) (pe_op op_mulW (pv 3) (pv 2))) (pa_cons (pe_op op_mulW (pv 2) (pv 4)) pa_nil))) (pg_tup (by rfl) (pgs_cons (pg_name (i := 1) sc__law_sum.nd rfl (.inl rfl)) (pgs_cons (pg_name (i := 2) sc__law_sum.nd rfl (.inl rfl)) pgs_nil))))))
      (pss_one (ps_ret (pe_tup (pa_cons (pv 1) (pa_cons (pv 2) pa_nil))))))), ?_⟩
    have hlen := hp0.len
    refine ⟨(by show 2 ≤ sizeLine; decide), fun p0 hp00 => ⟨p0, _, rfl, SqT.of upd_same, rfl, _, _, rfl, _, _, rfl, rfl, ?_⟩⟩
    have sI := same_new (o := .tup [.int 0, .int 1]) hp00
    refine ⟨_, rfl, a, rfl, ⟨_, SqL.of (sI _ _ ha)⟩, for_list (K := K) (a := a) (xs := ws) (fun i σ H' => Same H H' ∧ ∃ y3 y4 : Option V, σ = [some (.ref a), some (.int (sumR ((ps.take i).map fun p => Rat.divInt p.1 p.2)).num), some (.int ((sumR ((ps.take i).map fun p => Rat.divInt p.1 p.2)).den : Int)), y3, y4]) ⟨sI, none, none, rfl⟩ (fun i σ H' _ hP => SqL.of (hP.1 _ _ ha)) (fun i x σ H' hx hP => ?_) (fun σ H' hP => ?_)⟩
    · obtain ⟨s1, y3, y4, rfl⟩ := hP
      obtain ⟨p, n, o, rfl, hi, hm, hp⟩ := PrL_get hp0 hx
      obtain ⟨o0, od, nl⟩ := hps _ hm
      have o0 : 0 < o := o0
      have od : o.natAbs < 2 ^ p1 := od
      have nl : n.natAbs < 2 ^ p1 := nl
      have li := (List.getElem?_eq_some_iff.mp hi).1
      obtain ⟨b1, b2⟩ := hpt i (by omega)
      have e : sumR ((ps.take (i + 1)).map fun p => Rat.divInt p.1 p.2) = sumR ((ps.take i).map fun p => Rat.divInt p.1 p.2) + Rat.divInt n o := by
        rw [List.take_succ, hi, Option.toList_some, List.map_append, sumR_append]
        show _ + (Rat.divInt n o + 0) = _
        grind
      rw [e]
      have pd := plus_div (sumR ((ps.take i).map fun p => Rat.divInt p.1 p.2)) (n := n) o0
      generalize sumR ((ps.take i).map fun p => Rat.divInt p.1 p.2) = sq at *
      have b3 : ((sq.den : Int)).natAbs < 2 ^ p2 := by rw [Int.natAbs_natCast]; exact b2
      refine ⟨p, [.int n, .int o], rfl, SqT.of (s1 _ _ hp), rfl, _, _, rfl, _, _, rfl, rfl, ?_⟩
      have hne : (sq.den : Int) * o ≠ 0 := Int.mul_ne_zero (den_ne sq) (by omega)
      refine ⟨_, rfl, _, rfl, _, _, rfl, rfl, wide_mul b1 od (by omega) (by omega) (by omega), _, rfl, _, rfl, _, _, rfl, rfl, wide_mul nl b3 (by omega) (by omega) (by omega), _, _, rfl, rfl, _, rfl, _, rfl, _, _, rfl, rfl, wide_mul b3 od (by omega) (by omega) (by omega), _, _, rfl, Int.mul_pos (den_ge sq) o0, ?_, fun p2 hp2 => ?_⟩
      · show ((sq.den : Int) * o).natAbs < 2 ^ 8800
        rw [Int.natAbs_mul]
        have := Nat.mul_lt_mul'' b3 od
        rw [← Nat.pow_add] at this
        exact up this (by omega)
      · rw [lowT_num hne, lowB_den hne, pd]
        exact ⟨p2, _, rfl, SqT.of upd_same, rfl, _, _, rfl, _, _, rfl, rfl, s1.trans (same_new hp2), _, _, rfl⟩
    · obtain ⟨s1, y3, y4, rfl⟩ := hP
      rw [hlen, List.take_length]
      refine ⟨_, rfl, _, rfl, (by show 2 ≤ sizeLine; decide), fun p hp => ?_⟩
      exact q p _ (s1.free hp) (s1.trans (same_new hp)) upd_same
theorem sc__law_dot : FnScope ["_law_one_here", "_law_other", "_law_a", "_law_b"] ["_law_one_here", "_law_other"] (defScope s__law_dot) := ⟨rfl, rfl, rfl, by decide +kernel, rfl, by decide +kernel, by decide +kernel⟩
theorem ok__law_dot {f : Addr} {fd : FuncData} (F : Fun K "_law_dot" "_law_dot" s__law_dot f fd) (z : Zs mg) (c__law_sum : Cal P w K mg base 2 "_law_sum" ["_law_some"] spSumQ) : FnOk P w K mg base CX0 3 f fd ["_law_one_here", "_law_other"] (spLDot K) := by
  refine F.ok sc__law_dot (fun vs H Q E h => ?_) (fun cdv A outer s H vs Q E hr h => ?_)
  · obtain ⟨a, c, xs, ys, p1, p2, rfl, _⟩ := h
    rfl
  · obtain ⟨a, c, xs, ys, p1, p2, rfl, ⟨vs, ha, hx⟩, ⟨us, hc, hy⟩, ok, k⟩ := h
    refine ⟨_, (pss_one (ps_ret (pe_cal c__law_sum hr (pa_cons (pe_lc (own := [("_law_a", 2), ("_law_b", 3)]) (g := gTup K 2 (gCons (gName 2) (gCons (gName 3) gNil))) (tt := tYes) (te := (tTup (tCons (tOp (rI CMulW fun i j => V.int (i * j)) (tOp (rIxT K) (tVar 2) (tC (.int 0))) (tOp (rIxT K) (tVar 3) (tC (.int 0)))) (tCons (tOp (rI CMulW fun i j => V.int (i * j)) (tOp (rIxT K) (tVar 2) (tC (.int 1))) (tOp (rIxT K) (tVar 3) (tC (.int 1)))) tNil)))) (by rfl) sc__law_dot.nd (RZ.pi_zipA (by rfl) z.zip (pa_cons (pv 0) (pa_cons (pv 1) pa_nil))) (blkOk_by (own := [("_law_a", 2), ("_law_b", 3)]) (N := ["_law_one_here", "_law_other", "_law_a", "_law_b"]) (sc := defScope s__law_dot) (by decide +kernel)) (fun _ _ _ _ _ => by exact (pg_tup (by rfl) (pgs_cons (pg_name (i := 2) sc__law_dot.nd rfl (.inl rfl)) (pgs_cons (pg_name (i := 3) sc__law_dot.nd rfl (.inl rfl)) pgs_nil)))) (fun _ _ _ _ _ => by exact pts_nil) (fun _ _ _ _ _ => by exact (pe_tup (pa_cons (pe_op op_mulW (pe_ix ix_tup (pv 2) pe_int (fun _ _ => rfl)) (pe_ix ix_tup (pv 3) pe_int (fun _ _ => rfl))) (pa_cons (pe_op op_mulW (pe_ix ix_tup (pv 2) pe_int (fun _ _ => rfl)) (pe_ix ix_tup (pv 3) pe_int (fun _ _ => rfl))) pa_nil))))) pa_nil)))), ?_⟩
    have lx := hx.1
    have ly := hy.1
    have hl := ok.len
    have l10 := ok.l10
    refine ⟨_, rfl, _, rfl, a, c, vs, us, rfl, .inl ⟨SqL.of ha, SqL.of hc, fun l hL => ?_⟩⟩
    refine lc_it (walk_zip (K := K) (a := a) (b := c) (xs := vs) (ys := us) rfl) (fun i H2 => Same H H2 ∧ ∃ ws, H2 l = some (.lst ws) ∧ PrsAt H2 ws (pairsL (xs.take i) (ys.take i)) ∧ ws.length ≤ i) ⟨same_new hL, [], upd_same, .nil, Nat.le_refl _⟩ (fun i H2 _ hP => ⟨SqL.of (hP.1 _ _ ha), SqL.of (hP.1 _ _ hc)⟩) (fun i x H2 H3 hi hP hY => ?_) (fun H2 hP => ?_)
    · obtain ⟨s1, ws, hw, hps, hwl⟩ := hP
      obtain ⟨Tp, u, v, rfl, nT, rfl, e1, e2⟩ := hY
      obtain ⟨p, qx, rfl, hqx, hp⟩ := hx.get e1
      obtain ⟨r, qy, rfl, hqy, hr'⟩ := hy.get e2
      have sN := same_new (o := .tup [.ref p, .ref r]) nT
      have S1 := s1.trans sN
      have hp3 := sqT_same hp S1
      have hr3 := sqT_same hr' S1
      have hw3 := sN _ _ hw
      have ps3 := hps.same sN
      obtain ⟨nx, dx0⟩ := ok.x _ (List.mem_of_getElem? hqx)
      obtain ⟨ny, dy0⟩ := ok.y _ (List.mem_of_getElem? hqy)
      have li : i < min vs.length us.length := hi
      have dx : ((qx.den : Int)).natAbs < 2 ^ 4400 := by rw [Int.natAbs_natCast]; exact dx0
      have dy : ((qy.den : Int)).natAbs < 2 ^ 4400 := by rw [Int.natAbs_natCast]; exact dy0
      refine ⟨Tp, [.ref p, .ref r], rfl, SqT.of upd_same, rfl, _, _, rfl, _, _, rfl, rfl, rfl, ?_⟩
      refine ⟨_, rfl, p, _, 0, .int qx.num, rfl, rfl, hp3, a0, _, rfl, r, _, 0, .int qy.num, rfl, rfl, hr3, a0, _, _, rfl, rfl, wide_mul nx ny (by decide) (by decide) (by decide), _, rfl, p, _, 1, .int qx.den, rfl, rfl, hp3, a1, _, rfl, r, _, 1, .int qy.den, rfl, rfl, hr3, a1, _, _, rfl, rfl, wide_mul dx dy (by decide) (by decide) (by decide), (by show 2 ≤ sizeLine; decide), fun t ht => ?_⟩
      have sT := same_new (o := .tup [.int (qx.num * qy.num), .int (qx.den * qy.den : Int)]) ht
      have nl : t ≠ l := fun e => by
        rw [e, hw3] at ht
        cases ht
      refine ⟨_, sT _ _ hw3, small1000 (by omega), fun b o e => ?_, ws ++ [.ref t], upd_same, ?_, by rw [List.length_append]; show ws.length + 1 ≤ i + 1; omega⟩
      · rw [upd_ne (ne_of_none e hL)]
        exact sT _ _ (S1 _ _ e)
      · rw [pairs_take xs ys i qx qy hqx hqy]
        have A : PrsAt (upd (upd (upd H2 Tp (.tup [.ref p, .ref r])) t (.tup [.int (qx.num * qy.num), .int (qx.den * qy.den : Int)])) l (.lst (ws ++ [.ref t]))) ws (pairsL (xs.take i) (ys.take i)) := (ps3.same sT).but SameBut.upd (sT _ _ hw3)
        refine A.app (.cons ?_ .nil)
        rw [upd_ne nl]
        exact upd_same
    · obtain ⟨s1, ws, hw, hps, hwl⟩ := hP
      rw [show min vs.length us.length = xs.length by omega, List.take_length, show xs.length = ys.length from hl, List.take_length] at hps
      have pl := hps.len
      refine ⟨l, ws, _, p1, p2, rfl, hw, hps, by omega, ⟨ok.z1, ok.z2, ok.bit⟩, fun p hp => ?_, fun j hj => ?_, fun p H3 hp s3 f3 => ?_⟩
      · obtain ⟨i, x, y, hx9, hy9, rfl⟩ := pairs_at xs ys p hp
        obtain ⟨c1, c2⟩ := ok.each i x y hx9 hy9
        refine ⟨Int.mul_pos (den_ge x) (den_ge y), ?_, c1⟩
        show ((x.den : Int) * (y.den : Int)).natAbs < 2 ^ p1
        rw [← Int.natCast_mul, Int.natAbs_natCast]
        exact c2
      · rw [pairs_cut, pairs_sum]
        by_cases c : j ≤ xs.length
        · exact ok.part j c
        · have := ok.part xs.length (Nat.le_refl _)
          rw [List.take_of_length_le (Nat.le_refl _), List.take_of_length_le (by omega)] at this
          rw [List.take_of_length_le (by omega), List.take_of_length_le (by omega)]
          exact this
      · rw [pairs_sum] at f3
        exact k p H3 (s1.free hp) (s1.trans s3) f3
theorem sc__law_place : FnScope ["_law_well_here", "_law_kind"] ["_law_well_here", "_law_kind"] (defScope s__law_place) := ⟨rfl, rfl, rfl, by decide +kernel, rfl, by decide +kernel, by decide +kernel⟩
theorem ok__law_place {f : Addr} {fd : FuncData} (F : Fun K "_law_place" "_law_place" s__law_place f fd) (c__law_draw : Cal P w K mg base 1 "_law_draw" ["_law_well_here", "_law_many"] spDraw) (c__law_low : Cal P w K mg base 1 "_law_low" ["_law_top", "_law_bottom"] spLowP) : FnOk P w K mg base CX0 2 f fd ["_law_well_here", "_law_kind"] spPlace := by
  refine F.ok sc__law_place (fun vs H Q E h => ?_) (fun cdv A outer s H vs Q E hr h => ?_)
  · obtain ⟨ww, c, kd, rfl, _⟩ := h
    rfl
  · obtain ⟨ww, c, kd, rfl, hw, hc, q⟩ := h
    refine ⟨_, (pss_cons (ps_if (pt_cmpR op_eq (pv 1) pe_int (nomark _)) (pss_one (ps_ret (pe_cal c__law_low hr (pa_cons (pe_op op_sub (pe_cal c__law_draw hr (pa_cons (pv 0) (pa_cons pe_int pa_nil))) pe_int) (pa_cons (pe_op op_add pe_int (pe_cal c__law_draw hr (pa_cons (pv 0) (pa_cons pe_int pa_nil)))) pa_nil))))) pss_nil)
      (pss_one (ps_ret (pe_cal c__law_low hr (pa_cons (pe_op op_add (pe_op op_sub (pe_cal c__law_draw hr (pa_cons (pv 0) (pa_cons (pe_op op_sub (pe_op op_mul pe_int (pe_op op_pow pe_int pe_int)) pe_int) pa_nil))) (pe_op op_pow pe_int pe_int)) pe_int) (pa_cons (pe_op op_add pe_int (pe_cal c__law_draw hr (pa_cons (pv 0) (pa_cons (pe_op op_sub (pe_op op_pow pe_int pe_int) pe_int) pa_nil)))) pa_nil)))))), ?_⟩
    have fin : ∀ (t b : Int) (H2 : Hp) (p : Addr), SameBut ww H H2 → WellAt H2 ww (c + 1 + 1) → H2 p = none → 0 < b → Pl kd (Rat.divInt t b) → Q (.ref p) (upd H2 p (.tup [.int (lowT t b), .int (lowB t b)])) := fun t b H2 p dd w2 hp hb hpl => q p _ _ (but_free dd hp (w2.ne hp)) (dd.trans (SameBut.of (same_new hp))) ((w2.same (same_new hp)).mono (by omega)) (Fr.low (by omega) rfl upd_same) hpl
    have b40 : ∀ {b : Int}, b.natAbs < 2 ^ 40 → b.natAbs < 2 ^ 8800 := fun h => up h (by decide)
    refine ⟨_, rfl, rfl, _, rfl, ite2 (fun ck => ?_) (fun ck => ?_)⟩
    · have k0 : kd = 0 := V.int.inj (toB ck)
      refine ⟨_, rfl, ww, c, 7, rfl, hw, by omega, by decide, by decide, fun r1 H1 r10 r11 d1 f1 w1 => ⟨_, _, rfl, rfl, _, rfl, ww, c + 1, 4, rfl, w1, by omega, by decide, by decide, fun r2 H2 r20 r21 d2 f2 w2 => ⟨_, _, rfl, rfl, _, _, rfl, by omega, b40 (by omega), fun p hp => ?_⟩⟩⟩
      exact fin _ _ H2 p (d1.trans d2) w2 hp (by omega) ⟨fun _ => pl_small (by omega) (by omega), fun h => absurd k0 h⟩
    · have k0 : kd ≠ 0 := fun e => ck (decide_eq_true (by rw [e]))
      refine ⟨_, rfl, _, _, rfl, rfl, ⟨by decide, by decide, by decide⟩, _, _, rfl, rfl, .inl ⟨by decide, by decide⟩, _, _, rfl, rfl, ww, c, 1999999999, rfl, hw, by omega, by decide, by decide, fun r1 H1 r10 r11 d1 f1 w1 => ⟨_, _, rfl, rfl, ⟨by decide, by decide, by decide⟩, _, _, rfl, rfl, _, _, rfl, rfl, _, rfl, _, _, rfl, rfl, ⟨by decide, by decide, by decide⟩, _, _, rfl, rfl, ww, c + 1, 999999999, rfl, w1, by omega, by decide, by decide, fun r2 H2 r20 r21 d2 f2 w2 => ⟨_, _, rfl, rfl, _, _, rfl, by omega, b40 (by omega), fun p hp => ?_⟩⟩⟩
      have e9 : (10 : Int) ^ (9 : Int).toNat = 1000000000 := by decide
      rw [e9]
      exact fin _ _ H2 p (d1.trans d2) w2 hp (by omega) ⟨fun h => absurd h k0, fun _ => pl_div (by omega) (by omega) (by omega)⟩
end
end E1

namespace E1
open PySem PySem.Spec PyProof.Rows L2
/-! ### matrices of the law -/
def mP (kd : Int) : Nat := if kd = 0 then 3 else 2 ^ 30
structure Dn (kd : Int) (k : Nat) (D : Int) : Prop where
  ne : D ≠ 0
  z : kd = 0 → D = 12
  nz : kd ≠ 0 → D.natAbs ≤ 2 ^ (30 * k)
theorem Dn.start (kd : Int) : ∃ D, Dn kd 0 D := by
  by_cases c : kd = 0
  · exact ⟨12, by decide, fun _ => rfl, fun h => absurd c h⟩
  · exact ⟨1, by decide, fun h => absurd h c, fun _ => by decide⟩
theorem Dn.more {kd : Int} {k : Nat} {D : Int} {q : Rat} (h : Dn kd k D) (p : Pl kd q) : ∃ D', Dn kd (k + 1) D' ∧ (∀ M x, SM D M x → SM D' M x) ∧ SM D' (mP kd) q := by
  unfold mP
  by_cases c : kd = 0
  · rw [if_pos c]
    refine ⟨D, ⟨h.ne, h.z, fun z => absurd c z⟩, fun M x hx => hx, ?_⟩
    rw [h.z c]
    exact p.1 c
  · rw [if_neg c]
    obtain ⟨p1, p2⟩ := p.2 c
    have d0 := den_ge q
    refine ⟨D * (q.den : Int), ⟨Int.mul_ne_zero h.ne (by omega), fun z => absurd z c, fun _ => ?_⟩, fun M x hx => hx.grow _, ?_⟩
    · rw [Int.natAbs_mul, Int.natAbs_natCast, Nat.mul_add, Nat.pow_add]
      exact Nat.mul_le_mul (h.nz c) (Nat.le_trans p2 (by decide))
    · have s : SM (q.den : Int) (2 ^ 30) q := ⟨q.num, q_eq q, by
        rw [Int.natAbs_natCast]
        exact Nat.le_trans (Nat.le_trans p1 (by decide)) (Nat.le_mul_of_pos_right _ (by omega))⟩
      rw [Int.mul_comm]
      exact s.grow D
theorem Dn.mono {kd : Int} {k m : Nat} {D : Int} (h : Dn kd k D) (l : k ≤ m) : Dn kd m D := ⟨h.ne, h.z, fun c => Nat.le_trans (h.nz c) (Nat.pow_le_pow_right (by decide) (by omega))⟩
theorem pl_zero (kd : Int) : Pl kd 0 := ⟨fun _ => SM.zero, fun _ => ⟨by decide, by decide⟩⟩
theorem sm_one {D : Int} {M : Nat} (h : 1 ≤ M) : SM D M 1 := ⟨D, by grind, Nat.le_mul_of_pos_left _ h⟩
def EnL (D : Int) (M : Nat) (A : List (List Rat)) : Prop := ∀ r ∈ A, ∀ q ∈ r, SM D M q
/-- ones on the diagonal, noughts above it -/
def UL (n : Nat) (L : List (List Rat)) : Prop := L.length = n ∧ ∀ (i : Nat) (r : List Rat), L[i]? = some r → r.length = n ∧ r.getD i 0 = 1 ∧ ∀ j, i < j → r.getD j 0 = 0
theorem dot_sgN : ∀ (xs ys : List Rat) (n : Nat), xs.length = n → ys.length = n → dotR xs ys = sg (fun t => xs.getD t 0 * ys.getD t 0) n
  | [], ys, n, hx, hy => by
    cases hx
    cases ys with
    | nil => rfl
    | cons y ys => cases hy
  | x :: xs, [], n, hx, hy => by
    cases hy
    cases hx
  | x :: xs, y :: ys, n, hx, hy => by
    obtain ⟨k, rfl⟩ : ∃ k, n = k + 1 := ⟨xs.length, hx.symm⟩
    rw [sg_first]
    show x * y + dotR xs ys = _
    rw [dot_sgN xs ys k (Nat.succ.inj hx) (Nat.succ.inj hy)]
    rfl
theorem ad_row {A : List (List Rat)} {i : Nat} {r : List Rat} (h : A[i]? = some r) (t : Nat) : ad A i t = r.getD t 0 := by
  have e : A.getD i [] = r := by
    rw [List.getD_eq_getElem?_getD, h]
    rfl
  unfold ad
  rw [e]
theorem FrL.nw {H : Hp} {a w : Addr} {qs : List Rat} {c : Int} (h : FrL H a qs) (hw : WellAt H w c) : a ≠ w := fun e => by
  obtain ⟨vs, h1, h2⟩ := h
  obtain ⟨x, y, z, h3, _⟩ := hw
  rw [e, h3] at h1
  cases h1
  cases hq : qs with
  | nil => rw [hq] at h2; cases h2
  | cons q qs' => rw [hq] at h2; cases h2

theorem SeL.well {H H' : Hp} {w : Addr} {c : Int} {vs : List V} {ss : List (List Rat)} (h : SeL H vs ss) (s : SameBut w H H') (hw : WellAt H w c) : SeL H' vs ss := ⟨h.1, fun i r e => let ⟨b, e1, f⟩ := h.2 i r e; ⟨b, e1, f.well s hw (f.nw hw)⟩⟩
theorem SeL.nw {H : Hp} {w a : Addr} {c : Int} {vs : List V} {ss : List (List Rat)} (h : SeL H vs ss) (ha : H a = some (.lst vs)) (hw : WellAt H w c) : a ≠ w := fun e => by
  obtain ⟨x, y, z, h3, _⟩ := hw
  rw [e, h3] at ha
  cases ha
  obtain ⟨b, s, e1, _⟩ := h.get (i := 0) rfl
  cases e1
theorem FrsAt.rev {H : Hp} : ∀ {qs : List Rat} {vs : List V}, FrsAt H vs qs → FrsAt H vs.reverse qs.reverse
  | [], vs, h => by
    cases h
    exact .nil
  | q :: qs, vs, h => by
    cases h with
    | cons e r =>
      rw [List.reverse_cons, List.reverse_cons]
      exact FrsAt.app (FrsAt.rev r) (FrsAt.one e)
theorem FrsAt.rep {H : Hp} {p : Addr} {q : Rat} (f : Fr H p q) : ∀ n, FrsAt H (List.replicate n (.ref p)) (List.replicate n q)
  | 0 => .nil
  | n + 1 => FrsAt.app (FrsAt.one f) (FrsAt.rep f n)
def tri : Nat → Nat
  | 0 => 0
  | i + 1 => tri i + i
def Low (n : Nat) (kd : Int) (L : List (List Rat)) : Prop := UL n L ∧ ∃ D, Dn kd (tri n) D ∧ EnL D (mP kd) L
def spLower : Sp := fun vs H Q _ => ∃ (w : Addr) (c kd : Int) (n : Nat), vs = [.ref w, .int (n : Nat), .int kd] ∧ WellAt H w c ∧ c ≤ 10000 ∧ n ≤ 10 ∧ ∀ p us L H', H p = none → SameBut w H H' → WellAt H' w (c + 200) → H' p = some (.lst us) → SeL H' us L → Low n kd L → Q (.ref p) H'
theorem small9000 {m : Int} (h0 : 0 ≤ m) (h : m ≤ 1000) : m.natAbs < 2 ^ 9000 := Nat.lt_of_lt_of_le (show m.natAbs < 2 ^ 10 by omega) (Nat.pow_le_pow_right (by decide) (by decide))
theorem one_fr {H : Hp} {p : Addr} (h : H p = some (.tup [.int 1, .int 1])) : Fr H p 1 := by
  show H p = _
  rw [h]
  rfl
theorem nul_fr {H : Hp} {p : Addr} (h : H p = some (.tup [.int 0, .int 1])) : Fr H p 0 := by
  show H p = _
  rw [h]
  rfl

def mulR : List Rat → List Rat → List Rat
  | x :: xs, y :: ys => x * y :: mulR xs ys
  | _, _ => []
theorem mulR_take : ∀ (xs ys : List Rat) (i : Nat) (x y : Rat), xs[i]? = some x → ys[i]? = some y → mulR (xs.take (i + 1)) (ys.take (i + 1)) = mulR (xs.take i) (ys.take i) ++ [x * y]
  | a :: xs, b :: ys, 0, x, y, h1, h2 => by
    cases h1
    cases h2
    rfl
  | a :: xs, b :: ys, i + 1, x, y, h1, h2 => congrArg (a * b :: ·) (mulR_take xs ys i x y h1 h2)
  | [], _, _, _, _, h1, _ => by cases h1
  | _ :: _, [], _, _, _, _, h2 => by cases h2
theorem mulR_len : ∀ xs ys : List Rat, (mulR xs ys).length = min xs.length ys.length
  | [], ys => by cases ys <;> simp [mulR]
  | x :: xs, [] => by simp [mulR]
  | x :: xs, y :: ys => by
    show (mulR xs ys).length + 1 = min (xs.length + 1) (ys.length + 1)
    rw [mulR_len xs ys]
    omega
theorem mulR_at : ∀ (xs ys : List Rat) (t : Nat), (mulR xs ys).getD t 0 = xs.getD t 0 * ys.getD t 0
  | [], ys, t => by
    have : mulR [] ys = [] := by cases ys <;> rfl
    rw [this]
    show (0 : Rat) = 0 * _
    grind
  | x :: xs, [], t => by
    show (0 : Rat) = _ * 0
    grind
  | x :: xs, y :: ys, 0 => rfl
  | x :: xs, y :: ys, t + 1 => mulR_at xs ys t
def ofR (L : List (List Rat)) (ds : List Rat) : List (List Rat) := L.map fun r => L.map fun s => dotR (mulR r ds) s
structure OfOk (L : List (List Rat)) (ds : List Rat) (p1 p2 : Nat) : Prop where
  n10 : L.length ≤ 10
  wid : ∀ r ∈ L, r.length = L.length
  dl : ds.length = L.length
  ed : ∀ q ∈ ds, Bq 4400 q
  dot : ∀ r ∈ L, ∀ s ∈ L, DotOk (mulR r ds) s p1 p2
def spOf (K : PySem.W.Frag) : Sp := fun vs H Q _ => ∃ (a c : Addr) (us : List V) (L : List (List Rat)) (ds : List Rat) (p1 p2 : Nat), vs = [.ref a, .ref c] ∧ H a = some (.lst us) ∧ SeL H us L ∧ FrLK K H c ds ∧ OfOk L ds p1 p2 ∧
  ∀ p vs' H', H p = none → Same H H' → H' p = some (.lst vs') → SeL H' vs' (ofR L ds) → Q (.ref p) H'
theorem times_low (x y : Rat) : Rat.divInt (x.num * y.num) (x.den * y.den : Int) = x * y := times_q x y
section
variable {P : Program} {w : World} {K : PySem.W.Frag} {mg : Str → Option Value} {base : Heap}
theorem sc__law_lower : FnScope ["_law_well_here", "_law_many", "_law_kind", "_law_rows", "_law_i", "_law_j"] ["_law_well_here", "_law_many", "_law_kind"] (defScope s__law_lower) := ⟨rfl, rfl, rfl, by decide +kernel, rfl, by decide +kernel, by decide +kernel⟩
theorem ok__law_lower {f : Addr} {fd : FuncData} (F : Fun K "_law_lower" "_law_lower" s__law_lower f fd) (z : Zs mg) (c__law_place : Cal P w K mg base 2 "_law_place" ["_law_well_here", "_law_kind"] spPlace) : FnOk P w K mg base CX0 3 f fd ["_law_well_here", "_law_many", "_law_kind"] spLower := by
  refine F.ok sc__law_lower (fun vs H Q E h => ?_) (fun cdv A outer s H vs Q E hr h => ?_)
  · obtain ⟨ww, c, kd, n, rfl, _⟩ := h
    rfl
  · obtain ⟨ww, c, kd, n, rfl, hw, hc, n10, k⟩ := h
    refine ⟨_, (pss_cons (ps_set (i := 3) sc__law_lower.nd rfl (.inl rfl) (pe_lst pa_nil))
      (pss_cons (ps_for PassesOwn.never rfl (pi_range1 (by rfl) z.range (pa_cons (pv 1) pa_nil)) (pg_name (i := 4) sc__law_lower.nd rfl (.inl rfl)) (pss_one (ps_expr (pe_bm PySem.F.plainAttrs_list PySem.F.slot_list_append PySem.F.type_list_append mt_append (pv 3) (pa_cons (pe_op op_cat (pe_op op_cat (pe_lc (own := [("_law_j", 5)]) (g := gName 5) (tt := tYes) (te := (tCall spPlace [] E0 (tCons (tVar 0) (tCons (tVar 2) tNil)))) (by rfl) sc__law_lower.nd (pi_range1 (by rfl) z.range (pa_cons (pv 4) pa_nil)) (blkOk_by (own := [("_law_j", 5)]) (N := ["_law_well_here", "_law_many", "_law_kind", "_law_rows", "_law_i", "_law_j"]) (sc := defScope s__law_lower) (by decide +kernel)) (fun _ _ _ _ _ => by exact (pg_name (i := 5) sc__law_lower.nd rfl (.inl rfl))) (fun _ _ _ _ _ => by exact pts_nil) (fun _ _ _ _ _ => by exact (pe_cal c__law_place hr (pa_cons (pv 0) (pa_cons (pv 2) pa_nil))))) (pe_lst (pa_cons (pe_tup (pa_cons pe_int (pa_cons pe_int pa_nil))) pa_nil))) (pe_op op_rep (pe_lst (pa_cons (pe_tup (pa_cons pe_int (pa_cons pe_int pa_nil))) pa_nil)) (pe_op op_sub (pe_op op_sub (pv 1) pe_int) (pv 4)))) pa_nil)))))
      (pss_one (ps_ret (pv 3))))), ?_⟩
    refine ⟨(by show 0 ≤ sizeLine; decide), fun R hR => ?_⟩
    have nR := hw.ne hR
    have sR := same_new (o := .lst []) hR
    obtain ⟨D00, dn00⟩ := Dn.start kd
    refine ⟨_, rfl, n, rfl, by omega, by omega, for_range (lo := 0) (n := n) (fun i σ G => SameBut ww H G ∧ WellAt G ww (c + 20 * (i : Int)) ∧ ∃ (us : List V) (L : List (List Rat)) (y4 y5 : Option V), σ = [some (.ref ww), some (.int (n : Nat)), some (.int kd), some (.ref R), y4, y5] ∧ G R = some (.lst us) ∧ (∀ v ∈ us, v ≠ .ref R) ∧ SeL G us L ∧ L.length = i ∧ (∀ (j : Nat) (r : List Rat), L[j]? = some r → r.length = n ∧ r.getD j 0 = 1 ∧ ∀ t, j < t → r.getD t 0 = 0) ∧ ∃ D, Dn kd (tri i) D ∧ EnL D (mP kd) L) ⟨SameBut.of sR, (hw.same sR).mono (by omega), [], [], none, none, rfl, upd_same, (fun v hv => absurd hv List.not_mem_nil), ⟨rfl, fun i r e => by cases e⟩, rfl, (fun j r e => by cases e), D00, dn00, fun r hr => absurd hr List.not_mem_nil⟩ (fun i σ G hi hP => ?_) (fun σ G hP => ?_)⟩
    · obtain ⟨b1, w1, us, L, y4, y5, rfl, eus, nus, sL, lL, rows, D1, dn1, en1⟩ := hP
      rw [Int.zero_add]
      refine ⟨_, rfl, .inl ⟨rfl, _, SqL.of eus⟩, ?_⟩
      refine ⟨_, rfl, i, rfl, by omega, by omega, fun P hP => ?_⟩
      rw [Int.toNat_natCast]
      have nP := w1.ne hP
      refine lc_range (lo := 0) (n := i) (fun j X => SameBut ww G X ∧ WellAt X ww (c + 20 * (i : Int) + 2 * (j : Int)) ∧ ∃ vs qs, X P = some (.lst vs) ∧ FrsAt X vs qs ∧ qs.length = j ∧ ∃ D, Dn kd (tri i + j) D ∧ (∀ M x, SM D1 M x → SM D M x) ∧ ∀ q ∈ qs, SM D (mP kd) q) ⟨SameBut.of (same_new hP), (w1.same (same_new hP)).mono (by omega), [], [], upd_same, .nil, rfl, D1, dn1, (fun M x h => h), fun q h => absurd h List.not_mem_nil⟩ (fun j X hj hP3 => ?_) (fun X hP3 => ?_)
      · obtain ⟨bX, wX, vs, qs, eX, fX, lq, D, dn, gr, sq⟩ := hP3
        have lv := FrsAt.len fX
        refine ⟨rfl, _, rfl, _, rfl, ww, _, kd, rfl, wX, by omega, fun p q Y hp dY wY fY pl => ?_⟩
        obtain ⟨D', dn', gr', sq'⟩ := dn.more pl
        have eY := dY _ _ nP eX
        have np : p ≠ P := fun e => by
          rw [e, eX] at hp
          cases hp
        refine ⟨_, eY, small1000 (by omega), fun b o nb e => ?_, ?_, vs ++ [.ref p], qs ++ [q], upd_same, ?_, by rw [List.length_append, lq]; rfl, D', dn', fun M x h => gr' M x (gr M x h), fun x hx => ?_⟩
        · rw [upd_ne (ne_of_none e hP)]
          exact dY _ _ nb (bX _ _ nb e)
        · obtain ⟨x, y, zz, e, e1, e2, e3, e4⟩ := wY
          exact ⟨x, y, zz, by rw [upd_ne (Ne.symm nP)]; exact e, e1, e2, e3, by omega⟩
        · refine FrsAt.app (PrsAt.but (PrsAt.well fX dY wX) SameBut.upd eY) (FrsAt.one ?_)
          show (upd Y P _) p = _
          rw [upd_ne np]
          exact fY
        · rcases List.mem_append.mp hx with hx | hx
          · exact gr' _ _ (sq x hx)
          · rw [List.mem_singleton.mp hx]
            exact sq'
      · obtain ⟨bX, wX, vs, qs, eX, fX, lq, D, dn, gr, sq⟩ := hP3
        have lv := FrsAt.len fX
        refine ⟨(by show 2 ≤ sizeLine; decide), fun t1 ht1 => ⟨(by show 1 ≤ sizeLine; decide), fun l1 hl1 => ?_⟩⟩
        have s1 := same_new (o := .tup [.int 1, .int 1]) ht1
        have s2 := same_new (o := .lst [.ref t1]) hl1
        refine ⟨P, l1, vs, _, rfl, rfl, s2 _ _ (s1 _ _ eX), upd_same, Nat.le_of_lt (small1000 (show vs.length + 1 ≤ 1000 by omega)), fun l2 hl2 => ?_⟩
        have s3 := same_new (o := .lst (vs ++ [.ref t1])) hl2
        refine ⟨(by show 2 ≤ sizeLine; decide), fun t0 ht0 => ⟨(by show 1 ≤ sizeLine; decide), fun l3 hl3 => ?_⟩⟩
        have s4 := same_new (o := .tup [.int 0, .int 1]) ht0
        have s5 := same_new (o := .lst [.ref t0]) hl3
        refine ⟨_, rfl, _, _, rfl, rfl, _, rfl, _, _, rfl, rfl, l3, ((n - 1 - i : Nat) : Int), [.ref t0], rfl, ?_, upd_same, by omega, by omega, Nat.le_trans (show 1 * ((n - 1 - i : Nat) : Int).toNat ≤ 1000 by omega) (by decide), fun l4 hl4 => ?_⟩
        · show V.int (((n : Nat) : Int) - 1 - ((i : Nat) : Int)) = _
          rw [show ((n : Nat) : Int) - 1 - ((i : Nat) : Int) = ((n - 1 - i : Nat) : Int) by omega]
        have eL9 : (List.replicate ((n - 1 - i : Nat) : Int).toNat [V.ref t0]).flatten = List.replicate (n - 1 - i) (V.ref t0) := by
          rw [Int.toNat_natCast]
          generalize n - 1 - i = n
          induction n with
          | zero => rfl
          | succ n ih => rw [List.replicate_succ, List.flatten_cons, ih]; rfl
        rw [eL9]
        have s6 := same_new (o := .lst (List.replicate (n - 1 - i) (V.ref t0))) hl4
        refine ⟨l2, l4, _, _, rfl, rfl, s6 _ _ (s5 _ _ (s4 _ _ upd_same)), upd_same, ?_, fun l5 hl5 => ?_⟩
        · rw [List.length_append, List.length_replicate]
          exact Nat.le_of_lt (small1000 (show vs.length + 1 + (n - 1 - i) ≤ 1000 by omega))
        have s7 := same_new (o := .lst (vs ++ [.ref t1] ++ List.replicate (n - 1 - i) (V.ref t0))) hl5
        have F1 := s6.trans s7
        have F2 := (s4.trans s5).trans F1
        have F3 := (s2.trans s3).trans F2
        have FF := s1.trans F3
        have f1 : Fr _ t1 1 := one_fr (F3 _ _ upd_same)
        have f0 : Fr _ t0 0 := nul_fr (s7 _ _ (s6 _ _ (s5 _ _ upd_same)))
        have fr9 : FrL _ l5 (qs ++ [1] ++ List.replicate (n - 1 - i) 0) := ⟨_, upd_same, FrsAt.app (FrsAt.app (PrsAt.same fX FF) (FrsAt.one f1)) (FrsAt.rep f0 _)⟩
        have B9 := bX.trans (SameBut.of FF)
        have W9 := wX.same FF
        have eR9 := B9 _ _ nR eus
        have nl5 : l5 ≠ R := fun e => by
          rw [e] at hl5
          rw [s6 _ _ (s5 _ _ (s4 _ _ (s3 _ _ (s2 _ _ (s1 _ _ (bX _ _ nR eus))))))] at hl5
          cases hl5
        have lr : (qs ++ [1] ++ List.replicate (n - 1 - i) 0).length = n := by
          rw [List.length_append, List.length_append, List.length_replicate, lq]
          show i + 1 + (n - 1 - i) = n
          omega
        have rowi : (qs ++ [1] ++ List.replicate (n - 1 - i) 0).getD i 0 = 1 ∧ ∀ t, i < t → (qs ++ [1] ++ List.replicate (n - 1 - i) 0).getD t 0 = 0 := by
          refine ⟨?_, fun t ht => ?_⟩
          · rw [List.append_assoc, List.getD_eq_getElem?_getD, List.getElem?_append_right (by omega), lq, Nat.sub_self]
            rfl
          · rw [List.getD_eq_getElem?_getD, List.getElem?_append_right (by rw [List.length_append, lq]; exact ht), List.getElem?_replicate]
            split <;> rfl
        refine ⟨R, us, _, rfl, rfl, eR9, small1000 (by have := sL.1; omega), fun b o nb e => ?_, ?_, us ++ [.ref l5], L ++ [qs ++ [1] ++ List.replicate (n - 1 - i) 0], _, _, rfl, upd_same, fun v hv => ?_, ?_, by rw [List.length_append, lL]; rfl, fun j r e => ?_, D, dn, fun r hr q hq => ?_⟩
        · rw [upd_ne (ne_of_none e hR)]
          exact B9 _ _ nb (b1 _ _ nb e)
        · obtain ⟨x, y, zz, e, e1, e2, e3, e4⟩ := W9
          exact ⟨x, y, zz, by rw [upd_ne (Ne.symm nR)]; exact e, e1, e2, e3, by omega⟩
        · rcases List.mem_append.mp hv with h | h
          · exact nus v h
          · rw [List.mem_singleton.mp h]
            exact fun z => nl5 (V.ref.inj z)
        · exact SeL.app ((sL.well B9 w1).butN eR9 nus SameBut.upd) (SeL.one (fr9.but nl5 SameBut.upd eR9))
        · by_cases cj : j < L.length
          · rw [List.getElem?_append_left cj] at e
            exact rows j r e
          · have lj := (List.getElem?_eq_some_iff.mp e).1
            rw [List.length_append] at lj
            have ej : j = i := by
              have : j < L.length + 1 := lj
              omega
            subst ej
            rw [List.getElem?_append_right (by omega), lL, Nat.sub_self] at e
            cases e
            exact ⟨lr, rowi.1, rowi.2⟩
        · rcases List.mem_append.mp hr with h | h
          · exact gr _ _ (en1 r h q hq)
          · rw [List.mem_singleton.mp h] at hq
            have m1 : 1 ≤ mP kd := by unfold mP; split <;> decide +kernel
            rcases List.mem_append.mp hq with h | h
            · rcases List.mem_append.mp h with h | h
              · exact sq q h
              · rw [List.mem_singleton.mp h]
                exact sm_one m1
            · rw [(List.mem_replicate.mp h).2]
              exact SM.zero
    · obtain ⟨b1, w1, us, L, y4, y5, rfl, eus, nus, sL, lL, rows, D1, dn1, en1⟩ := hP
      exact ⟨_, rfl, k R us L G hR b1 (w1.mono (by omega)) eus sL ⟨⟨lL, rows⟩, D1, dn1, en1⟩⟩
theorem sc__law_of : FnScope ["_law_lower_here", "_law_pivots_here", "_law_rows", "_law_row", "_law_swung", "_law_a", "_law_b", "_law_other"] ["_law_lower_here", "_law_pivots_here"] (defScope s__law_of) := ⟨rfl, rfl, rfl, by decide +kernel, rfl, by decide +kernel, by decide +kernel⟩
theorem ok__law_of {f : Addr} {fd : FuncData} (F : Fun K "_law_of" "_law_of" s__law_of f fd) (z : Zs mg) (c__law_low : Cal P w K mg base 1 "_law_low" ["_law_top", "_law_bottom"] spLowP) (c__law_dot : Cal P w K mg base 3 "_law_dot" ["_law_one_here", "_law_other"] (spLDot K)) : FnOk P w K mg base CX0 4 f fd ["_law_lower_here", "_law_pivots_here"] (spOf K) := by
  refine F.ok sc__law_of (fun vs H Q E h => ?_) (fun cdv A outer s H vs Q E hr h => ?_)
  · obtain ⟨a, c, us, L, ds, p1, p2, rfl, _⟩ := h
    rfl
  · obtain ⟨a, c, us, L, ds, p1, p2, rfl, ha, sL, ⟨cs, hc, hd⟩, ok, k⟩ := h
    refine ⟨_, (pss_cons (ps_set (i := 2) sc__law_of.nd rfl (.inl rfl) (pe_lst pa_nil))
      (pss_cons (ps_for PassesOwn.never rfl (pi_list (pv 0)) (pg_name (i := 3) sc__law_of.nd rfl (.inl rfl)) (pss_cons (ps_set (i := 4) sc__law_of.nd rfl (.inr rfl) (pe_lc (own := [("_law_a", 5), ("_law_b", 6)]) (g := gTup K 2 (gCons (gName 5) (gCons (gName 6) gNil))) (tt := tYes) (te := (tCall spLowP [] E0 (tCons (tOp (rI CMulW fun i j => V.int (i * j)) (tOp (rIxT K) (tVar 5) (tC (.int 0))) (tOp (rIxT K) (tVar 6) (tC (.int 0)))) (tCons (tOp (rI CMulW fun i j => V.int (i * j)) (tOp (rIxT K) (tVar 5) (tC (.int 1))) (tOp (rIxT K) (tVar 6) (tC (.int 1)))) tNil)))) (by rfl) sc__law_of.nd (RZ.pi_zipA (by rfl) z.zip (pa_cons (pv 3) (pa_cons (pv 1) pa_nil))) (blkOk_by (own := [("_law_a", 5), ("_law_b", 6)]) (N := ["_law_lower_here", "_law_pivots_here", "_law_rows", "_law_row", "_law_swung", "_law_a", "_law_b", "_law_other"]) (sc := defScope s__law_of) (by decide +kernel)) (fun _ _ _ _ _ => by exact (pg_tup (by rfl) (pgs_cons (pg_name (i := 5) sc__law_of.nd rfl (.inl rfl)) (pgs_cons (pg_name (i := 6) sc__law_of.nd rfl (.inl rfl)) pgs_nil)))) (fun _ _ _ _ _ => by exact pts_nil) (fun _ _ _ _ _ => by exact (pe_cal c__law_low hr (pa_cons (pe_op op_mulW (pe_ix ix_tup (pv 5) pe_int (fun _ _ => rfl)) (pe_ix ix_tup (pv 6) pe_int (fun _ _ => rfl))) (pa_cons (pe_op op_mulW (pe_ix ix_tup (pv 5) pe_int (fun _ _ => rfl)) (pe_ix ix_tup (pv 6) pe_int (fun _ _ => rfl))) pa_nil))))))
      (pss_one (ps_expr (pe_bm PySem.F.plainAttrs_list PySem.F.slot_list_append PySem.F.type_list_append mt_append (pv 2) (pa_cons (pe_lc (own := [("_law_other", 7)]) (g := gName 7) (tt := tYes) (te := (tCall (spLDot K) [] E0 (tCons (tVar 4) (tCons (tVar 7) tNil)))) (by rfl) sc__law_of.nd (pi_list (pv 0)) (blkOk_by (own := [("_law_other", 7)]) (N := ["_law_lower_here", "_law_pivots_here", "_law_rows", "_law_row", "_law_swung", "_law_a", "_law_b", "_law_other"]) (sc := defScope s__law_of) (by decide +kernel)) (fun _ _ _ _ _ => by exact (pg_name (i := 7) sc__law_of.nd rfl (.inl rfl))) (fun _ _ _ _ _ => by exact pts_nil) (fun _ _ _ _ _ => by exact (pe_cal c__law_dot hr (pa_cons (pv 4) (pa_cons (pv 7) pa_nil))))) pa_nil))))))
      (pss_one (ps_ret (pv 2))))), ?_⟩
    have lu := sL.1
    have ld := hd.1
    have n10 := ok.n10
    have dl := ok.dl
    refine ⟨(by show 0 ≤ sizeLine; decide), fun R hR => ?_⟩
    have sR := same_new (o := .lst []) hR
    refine ⟨_, rfl, a, rfl, ⟨_, SqL.of (sR _ _ ha)⟩, for_list (K := K) (a := a) (xs := us) (fun i σ G => Same H G ∧ ∃ (vs : List V) (y3 y4 : Option V), σ = [some (.ref a), some (.ref c), some (.ref R), y3, y4, none, none, none] ∧ G R = some (.lst vs) ∧ (∀ v ∈ vs, v ≠ .ref R) ∧ SeL G vs ((L.take i).map fun r => L.map fun s => dotR (mulR r ds) s)) ⟨sR, [], none, none, rfl, upd_same, (fun v hv => absurd hv List.not_mem_nil), rfl, fun i r e => by rw [List.take_zero] at e; cases e⟩ (fun i σ G _ hP => SqL.of (hP.1 _ _ ha)) (fun i x σ G hx hP => ?_) (fun σ G hP => ?_)⟩
    · obtain ⟨sG, vs, y3, y4, rfl, eR, nR, se⟩ := hP
      obtain ⟨b, r, rfl, hr2, fb⟩ := sL.get hx
      have li := (List.getElem?_eq_some_iff.mp hr2).1
      have mr := List.mem_of_getElem? hr2
      have wr := ok.wid r mr
      obtain ⟨bs, hb, lb, hbs⟩ := (fb.same sG).len
      have hcG := sG _ _ hc
      have lv := se.1
      rw [List.length_map, List.length_take] at lv
      refine ⟨_, rfl, _, rfl, b, c, bs, cs, rfl, .inl ⟨SqL.of hb, SqL.of hcG, fun D hD => ?_⟩⟩
      refine lc_it (walk_zip (K := K) (a := b) (b := c) (xs := bs) (ys := cs) rfl) (fun j X => Same G X ∧ FrL X D (mulR (r.take j) (ds.take j))) ⟨same_new hD, [], upd_same, .nil⟩ (fun j X _ hQ => ⟨SqL.of (hQ.1 _ _ hb), SqL.of (hQ.1 _ _ hcG)⟩) (fun j x X X2 hj hQ hY => ?_) (fun X hQ => ?_)
      · obtain ⟨sX, ws, hw, fw⟩ := hQ
        obtain ⟨Tp, u, v, rfl, nT, rfl, e1, e2⟩ := hY
        obtain ⟨p, qx, rfl, hqx, hp⟩ := FrsAt.get hbs e1
        obtain ⟨q, qy, rfl, hqy, hq⟩ := hd.get e2
        have lj : j < min bs.length cs.length := hj
        have sN := same_new (o := .tup [.ref p, .ref q]) nT
        have hp3 : SqT K _ p [.int qx.num, .int (qx.den : Int)] := SqT.of (sN _ _ (sX _ _ hp))
        have hq3 := sqT_same hq ((sG.trans sX).trans sN)
        obtain ⟨nx, dx0⟩ := (ok.dot r mr r mr).y _ (List.mem_of_getElem? hqx)
        obtain ⟨ny, dy0⟩ := ok.ed _ (List.mem_of_getElem? hqy)
        have dx : ((qx.den : Int)).natAbs < 2 ^ 4400 := by rw [Int.natAbs_natCast]; exact dx0
        have dy : ((qy.den : Int)).natAbs < 2 ^ 4400 := by rw [Int.natAbs_natCast]; exact dy0
        refine ⟨Tp, [.ref p, .ref q], rfl, SqT.of upd_same, rfl, _, _, rfl, _, _, rfl, rfl, rfl, ?_⟩
        refine ⟨_, rfl, p, _, 0, .int qx.num, rfl, rfl, hp3, a0, _, rfl, q, _, 0, .int qy.num, rfl, rfl, hq3, a0, _, _, rfl, rfl, wide_mul nx ny (by decide) (by decide) (by decide), _, rfl, p, _, 1, .int qx.den, rfl, rfl, hp3, a1, _, rfl, q, _, 1, .int qy.den, rfl, rfl, hq3, a1, _, _, rfl, rfl, wide_mul dx dy (by decide) (by decide) (by decide), _, _, rfl, Int.mul_pos (den_ge qx) (den_ge qy), ?_, fun t ht => ?_⟩
        · rw [Int.natAbs_mul]
          have := Nat.mul_lt_mul'' dx dy
          rw [← Nat.pow_add] at this
          exact this
        have hw3 := sN _ _ hw
        have sT := same_new (o := .tup [.int (lowT (qx.num * qy.num) (qx.den * qy.den : Int)), .int (lowB (qx.num * qy.num) (qx.den * qy.den : Int))]) ht
        have nl : t ≠ D := fun e => by
          rw [e, hw3] at ht
          cases ht
        have lw := FrsAt.len fw
        rw [mulR_len, List.length_take, List.length_take] at lw
        refine ⟨_, sT _ _ hw3, small1000 (by omega), fun b o e => ?_, ws ++ [.ref t], upd_same, ?_⟩
        · rw [upd_ne (ne_of_none e hD)]
          exact sT _ _ (sN _ _ (sX _ _ e))
        · rw [mulR_take r ds j qx qy hqx hqy]
          refine FrsAt.app (PrsAt.but (PrsAt.same (PrsAt.same fw sN) sT) SameBut.upd (sT _ _ hw3)) (FrsAt.one ?_)
          have f1 : Fr (upd (upd X Tp (.tup [.ref p, .ref q])) t (.tup [.int (lowT (qx.num * qy.num) (qx.den * qy.den : Int)), .int (lowB (qx.num * qy.num) (qx.den * qy.den : Int))])) t (qx * qy) := Fr.low (t := qx.num * qy.num) (b := (qx.den * qy.den : Int)) (Int.mul_ne_zero (den_ne qx) (den_ne qy)) (times_low qx qy) upd_same
          show (upd (upd (upd X Tp _) t _) D _) t = _
          rw [upd_ne nl]
          exact f1
      · obtain ⟨sX, fD⟩ := hQ
        rw [show min bs.length cs.length = r.length by omega, List.take_length, List.take_of_length_le (by omega)] at fD
        have SG := sG.trans sX
        have haX := SG _ _ ha
        have nDR : D ≠ R := fun e => by
          rw [e, eR] at hD
          cases hD
        have eRX := sX _ _ eR
        refine ⟨_, rfl, .inl ⟨rfl, _, SqL.of eRX⟩, ?_⟩
        refine ⟨_, rfl, a, rfl, ⟨_, SqL.of haX⟩, fun D2 hD2 => lc_list (K := K) (a := a) (xs := us) (fun j Y => Same X Y ∧ FrL Y D2 ((L.take j).map fun s => dotR (mulR r ds) s)) ⟨same_new hD2, [], upd_same, by rw [List.take_zero]; exact .nil⟩ (fun j Y _ hQ => SqL.of (hQ.1 _ _ haX)) (fun j x Y hxx hQ => ?_) (fun Y hQ => ?_)⟩
        · obtain ⟨sY, ws, hw, fw⟩ := hQ
          obtain ⟨b2, s2, rfl, hs2, fb2⟩ := sL.get hxx
          have ms := List.mem_of_getElem? hs2
          have lj := (List.getElem?_eq_some_iff.mp hs2).1
          have lw := FrsAt.len fw
          rw [List.length_map, List.length_take] at lw
          refine ⟨rfl, _, rfl, _, rfl, D, b2, mulR r ds, s2, p1, p2, rfl, (fD.same sY).k, (fb2.same (SG.trans sY)).k, ok.dot r mr s2 ms, fun p Y2 hp s9 f9 => ?_⟩
          have hw9 := s9 _ _ hw
          refine ⟨_, hw9, small1000 (by omega), fun b o e => ?_, ws ++ [.ref p], upd_same, ?_⟩
          · rw [upd_ne (ne_of_none e hD2)]
            exact s9 _ _ (sY _ _ e)
          · rw [show L.take (j + 1) = L.take j ++ [s2] by rw [List.take_succ, hs2]; rfl, List.map_append]
            refine FrsAt.app (PrsAt.but (PrsAt.same fw s9) SameBut.upd hw9) (FrsAt.one ?_)
            show (upd Y2 D2 _) p = _
            rw [upd_ne (ne_of f9 hw9 (fun z => nomatch z))]
            exact f9
        · obtain ⟨sY, fD2⟩ := hQ
          rw [List.take_of_length_le (by omega)] at fD2
          have nD2R : D2 ≠ R := fun e => by
            rw [e, eRX] at hD2
            cases hD2
          have eRY := sY _ _ eRX
          have SY := sX.trans sY
          refine ⟨R, vs, _, rfl, rfl, eRY, small1000 (by omega), fun c o e => ?_, vs ++ [.ref D2], _, _, rfl, upd_same, fun v hv => ?_, ?_⟩
          · rw [upd_ne (ne_of_none e hR)]
            exact SY _ _ (sG _ _ e)
          · rcases List.mem_append.mp hv with h | h
            · exact nR v h
            · rw [List.mem_singleton.mp h]
              exact fun z => nD2R (V.ref.inj z)
          · rw [show L.take (i + 1) = L.take i ++ [r] by rw [List.take_succ, hr2]; rfl, List.map_append]
            exact SeL.app ((se.same SY).butN eRY nR SameBut.upd) (SeL.one (fD2.but nD2R SameBut.upd eRY))
    · obtain ⟨sG, vs, y3, y4, rfl, eR, nR, se⟩ := hP
      rw [List.take_of_length_le (by omega)] at se
      exact ⟨_, rfl, k R vs G hR sG eR se⟩
end
end E1

namespace E1
open PySem PySem.Spec PyProof.Rows L2

def topP (n : Int) : Int := if (if n < 0 then -n else n) > 1 then (if n < 0 then -n else n) else 1
theorem topP_abs (n : Int) : 1 ≤ topP n ∧ (topP n).natAbs = max 1 n.natAbs := by
  unfold topP
  split <;> split at * <;> omega
def tpr (q : Rat) : Int × Int := (topP q.num, (q.den : Int))
def pvq (q : Rat) : Rat := Rat.divInt (topP q.num) (q.den : Int)
def PlD (kd : Int) (q : Rat) : Prop := (kd = 0 → SM 12000000000 3 q) ∧ (kd ≠ 0 → q.num.natAbs ≤ 1000000000 ∧ q.den ≤ 1000000000)
theorem Pl.d {kd : Int} {q : Rat} (h : Pl kd q) : PlD kd q := ⟨fun c => by
  have := (h.1 c).grow 1000000000
  exact this, h.2⟩
theorem PlD.neg {kd : Int} {q : Rat} (h : PlD kd q) : PlD kd (-q) := ⟨fun c => (h.1 c).neg, fun c => by
  rw [Rat.neg_num, Rat.neg_den, Int.natAbs_neg]
  exact h.2 c⟩
theorem pvq_pl {kd : Int} {q : Rat} (h : Pl kd q) : Pl kd (pvq q) := by
  have d0 := den_ge q
  obtain ⟨t1, t2⟩ := topP_abs q.num
  have dv := div_q (t := topP q.num) (b := (q.den : Int)) (by omega)
  refine ⟨fun c => ?_, fun c => ?_⟩
  · obtain ⟨t, e, b⟩ := h.1 c
    have dn : (((q.den : Nat) : Int) : Rat) ≠ 0 := fun y => by
      have := Rat.intCast_eq_zero_iff.mp y
      omega
    have qe := q_eq q
    change pvq q * _ = _ at dv
    by_cases z : q.num = 0
    · have tz : topP q.num = 1 := by rw [z]; rfl
      have q0 : q = 0 := by
        rw [z] at qe
        rcases Rat.mul_eq_zero.mp (show q * (((q.den : Nat) : Int) : Rat) = 0 from qe) with y | y
        · exact y
        · exact absurd y dn
      have one : pvq q = 1 := by
        rw [q0]
        rfl
      rw [one]
      exact sm_one (by decide)
    · have key : pvq q = q ∨ pvq q = -q := by
        rcases (by omega : topP q.num = q.num ∨ topP q.num = -q.num) with y | y
        · left
          rw [y, ← qe] at dv
          have e3 : (pvq q - q) * (((q.den : Nat) : Int) : Rat) = 0 := by grind
          rcases Rat.mul_eq_zero.mp e3 with y | y
          · grind
          · exact absurd y dn
        · right
          rw [y, Rat.intCast_neg, ← qe] at dv
          have e3 : (pvq q + q) * (((q.den : Nat) : Int) : Rat) = 0 := by grind
          rcases Rat.mul_eq_zero.mp e3 with y | y
          · grind
          · exact absurd y dn
      rcases key with y | y <;> rw [y]
      · exact h.1 c
      · exact (h.1 c).neg
  · obtain ⟨h1, h2⟩ := h.2 c
    exact pl_div d0 (by omega) (by omega)
theorem pvq_pos (q : Rat) : 0 < pvq q := by
  have d0 := den_ge q
  obtain ⟨t1, _⟩ := topP_abs q.num
  unfold pvq
  rw [Rat.divInt_eq_div, Rat.div_def]
  exact Rat.mul_pos (Rat.intCast_lt_intCast.mpr (show (0 : Int) < topP q.num by omega)) (Rat.inv_pos.mpr (Rat.intCast_lt_intCast.mpr (show (0 : Int) < q.den by omega)))
theorem Pl.den {kd : Int} {q : Rat} (h : Pl kd q) : q.den ≤ 1000000000 := by
  by_cases c : kd = 0
  · have := Nat.le_of_dvd (by decide) (Int.natAbs_dvd_natAbs.mpr (h.1 c).den)
    rw [Int.natAbs_natCast] at this
    exact Nat.le_trans this (by decide)
  · exact (h.2 c).2
theorem PlD.tiny (kd : Int) : PlD kd (Rat.divInt (-1) 1000000000) := by
  have dv := div_q (t := -1) (b := 1000000000) (by decide)
  refine ⟨fun _ => ⟨-12, ?_, by decide⟩, fun _ => pl_div (by decide) (by decide) (by decide)⟩
  have e : ((12000000000 : Int) : Rat) = ((1000000000 : Int) : Rat) * ((12 : Int) : Rat) := by
    rw [← Rat.intCast_mul]
    rfl
  rw [e, ← Rat.mul_assoc, dv, ← Rat.intCast_mul]
  rfl
theorem tiny_low : Rat.divInt (-1) 1000000000 ≤ 0 := by
  rw [Rat.divInt_eq_div]
  decide +kernel
theorem tiny_fr {H : Hp} {p : Addr} (h : H p = some (.tup [.int (-1), .int 1000000000])) : Fr H p (Rat.divInt (-1) 1000000000) := by
  show H p = _
  rw [h]
  have : Rat.divInt (-1) 1000000000 = ⟨-1, 1000000000, by decide, by decide +kernel⟩ := by
    decide +kernel
  rw [this]
  rfl
theorem neg_fr {H : Hp} {p : Addr} {q : Rat} (h : H p = some (.tup [.int (0 - q.num), .int (q.den : Int)])) : Fr H p (-q) := by
  show H p = _
  rw [h, Rat.neg_num, Rat.neg_den, Int.zero_sub]
theorem FrsAt.set {H : Hp} {p : Addr} {x : Rat} (hp : Fr H p x) : ∀ {vs : List V} {qs : List Rat} (t : Nat), FrsAt H vs qs → FrsAt H (vs.set t (.ref p)) (qs.set t x)
  | [], [], _, h => h
  | [], _ :: _, _, h => by cases h
  | _ :: _, [], _, h => by cases h
  | v :: vs, q :: qs, 0, h => by
    cases h with
    | cons e r => exact .cons hp r
  | v :: vs, q :: qs, t + 1, h => by
    cases h with
    | cons e r => exact .cons e (FrsAt.set hp t r)
def spPivs : Sp := fun vs H Q _ => ∃ (w : Addr) (c kd way : Int) (n : Nat), vs = [.ref w, .int (n : Nat), .int kd, .int way] ∧ WellAt H w c ∧ c ≤ 10000 ∧ n ≤ 10 ∧
  ∀ p ds H', H p = none → SameBut w H H' → WellAt H' w (c + 100) → FrL H' p ds → ds.length = n → (∀ q ∈ ds, PlD kd q) → (way ≠ 1 ∨ n = 0 → ∀ q ∈ ds, 0 < q) → (way = 1 → 0 < n → ∃ t, t < n ∧ ds.getD t 0 ≤ 0) → Q (.ref p) H'
section
variable {P : Program} {w : World} {K : PySem.W.Frag} {mg : Str → Option Value} {base : Heap}
theorem sc__law_pivots : FnScope ["_law_well_here", "_law_many", "_law_kind", "_law_way", "_law_found", "_law_k", "_law_one_here", "_law_at"] ["_law_well_here", "_law_many", "_law_kind", "_law_way"] (defScope s__law_pivots) := ⟨rfl, rfl, rfl, by decide +kernel, rfl, by decide +kernel, by decide +kernel⟩
theorem ok__law_pivots {f : Addr} {fd : FuncData} (F : Fun K "_law_pivots" "_law_pivots" s__law_pivots f fd) (z : Zs mg) (c__law_draw : Cal P w K mg base 1 "_law_draw" ["_law_well_here", "_law_many"] spDraw) (c__law_one : Cal P w K mg base 2 "_law_one" ["_law_well_here", "_law_some"] spOne) (c__law_low : Cal P w K mg base 1 "_law_low" ["_law_top", "_law_bottom"] spLowP) (c__law_place : Cal P w K mg base 2 "_law_place" ["_law_well_here", "_law_kind"] spPlace) : FnOk P w K mg base CX0 3 f fd ["_law_well_here", "_law_many", "_law_kind", "_law_way"] spPivs := by
  refine F.ok sc__law_pivots (fun vs H Q E h => ?_) (fun cdv A outer s H vs Q E hr h => ?_)
  · obtain ⟨ww, c, kd, way, n, rfl, _⟩ := h
    rfl
  · obtain ⟨ww, c, kd, way, n, rfl, hw, hc, n10, k⟩ := h
    refine ⟨_, (pss_cons (ps_set (i := 4) sc__law_pivots.nd rfl (.inl rfl) (pe_lst pa_nil))
      (pss_cons (ps_for PassesOwn.never rfl (pi_range1 (by rfl) z.range (pa_cons (pv 1) pa_nil)) (pg_name (i := 5) sc__law_pivots.nd rfl (.inl rfl)) (pss_cons (ps_set (i := 6) sc__law_pivots.nd rfl (.inl rfl) (pe_cal c__law_place hr (pa_cons (pv 0) (pa_cons (pv 2) pa_nil))))
      (pss_one (ps_expr (pe_bm PySem.F.plainAttrs_list PySem.F.slot_list_append PySem.F.type_list_append mt_append (pv 4) (pa_cons (pe_tup (pa_cons (pe_callB (call_max2 rfl) (by rfl) z.max (by decide +kernel) (pa_cons pe_int (pa_cons (pe_callB call_abs (by rfl) z.abs (by decide +kernel) (pa_cons (pe_ix ix_tup (pv 6) pe_int (fun _ _ => rfl)) pa_nil)) pa_nil))) (pa_cons (pe_ix ix_tup (pv 6) pe_int (fun _ _ => rfl)) pa_nil))) pa_nil))))))
      (pss_cons (ps_setLc (i := 4) (own := [("_law_one_here", 6)]) (g := gName 6) (tt := tYes) (te := (tCall spLowP [] E0 (tCons (tOp (rIxT K) (tVar 6) (tC (.int 0))) (tCons (tOp (rIxT K) (tVar 6) (tC (.int 1))) tNil)))) (by rfl) sc__law_pivots.nd rfl rfl (sw_true rfl rfl rfl (by decide +kernel)) (pi_list (pv 4)) (blkOk_by (own := [("_law_one_here", 6)]) (N := ["_law_well_here", "_law_many", "_law_kind", "_law_way", "_law_found", "_law_k", "_law_one_here", "_law_at"]) (sc := defScope s__law_pivots) (by decide +kernel)) (fun _ _ _ _ _ => by exact (pg_name (i := 6) sc__law_pivots.nd rfl (.inl rfl))) (fun _ _ _ _ _ => by exact pts_nil) (fun _ _ _ _ _ => by exact (pe_cal c__law_low hr (pa_cons (pe_ix ix_tup (pv 6) pe_int (fun _ _ => rfl)) (pa_cons (pe_ix ix_tup (pv 6) pe_int (fun _ _ => rfl)) pa_nil)))))
      (pss_cons (ps_if (PW.pt (pw_and (pt_cmpR op_eq (pv 3) pe_int (nomark _)) (pw_and1 (pt_cmpR op_gt (pv 1) pe_int (nomark _))))) (pss_cons (ps_set (i := 7) sc__law_pivots.nd rfl (.inl rfl) (pe_cal c__law_draw hr (pa_cons (pv 0) (pa_cons (pv 1) pa_nil))))
      (pss_one (ps_asg (pe_cal c__law_one hr (pa_cons (pv 0) (pa_cons (pe_lst (pa_cons (pe_tup (pa_cons pe_int (pa_cons pe_int pa_nil))) (pa_cons (pe_tup (pa_cons (pe_op op_sub pe_int (pe_ix ix_tup (pe_ix ix_list (pv 4) (pv 7) (fun _ _ => rfl)) pe_int (fun _ _ => rfl))) (pa_cons (pe_ix ix_tup (pe_ix ix_list (pv 4) (pv 7) (fun _ _ => rfl)) pe_int (fun _ _ => rfl)) pa_nil))) (pa_cons (pe_tup (pa_cons (pe_un un_neg pe_int) (pa_cons (pe_op op_pow pe_int pe_int) pa_nil))) pa_nil)))) pa_nil))) (pg_sub (pv 4) (pv 7) set_list)))) pss_nil)
      (pss_one (ps_ret (pv 4))))))), ?_⟩
    refine ⟨(by show 0 ≤ sizeLine; decide), fun R hR => ?_⟩
    have nR := hw.ne hR
    have sR := same_new (o := .lst []) hR
    refine ⟨_, rfl, n, rfl, by omega, by omega, for_range (lo := 0) (n := n) (fun i σ G => SameBut ww H G ∧ WellAt G ww (c + 2 * (i : Int)) ∧ ∃ (us : List V) (qs : List Rat) (y5 y6 : Option V), σ = [some (.ref ww), some (.int (n : Nat)), some (.int kd), some (.int way), some (.ref R), y5, y6, none] ∧ G R = some (.lst us) ∧ PrsAt G us (qs.map tpr) ∧ qs.length = i ∧ ∀ q ∈ qs, Pl kd q) ⟨SameBut.of sR, (hw.same sR).mono (by omega), [], [], none, none, rfl, upd_same, .nil, rfl, fun q hq => absurd hq List.not_mem_nil⟩ (fun i σ G hi hP => ?_) (fun σ G hP => ?_)⟩
    · obtain ⟨b1, w1, us, qs, y5, y6, rfl, eus, pus, lq, pl⟩ := hP
      rw [Int.zero_add]
      refine ⟨_, rfl, _, rfl, ww, _, kd, rfl, w1, by omega, fun p q G2 hp d2 w2 f2 pq => ?_⟩
      have e2 := d2 _ _ nR eus
      have I0 : SqT K G2 p [.int q.num, .int (q.den : Int)] := SqT.of f2
      refine ⟨_, rfl, .inl ⟨rfl, _, SqL.of e2⟩, ?_⟩
      refine ⟨_, rfl, p, _, 0, .int q.num, rfl, rfl, I0, a0, _, rfl, 1, _, rfl, ?_⟩
      refine ⟨_, rfl, p, _, 1, .int (q.den : Int), rfl, rfl, I0, a1, (by show 2 ≤ sizeLine; decide), fun t ht => ?_⟩
      have st := same_new (o := .tup [.int (topP q.num), .int (q.den : Int)]) ht
      have e3 := st _ _ e2
      have lu := pus.len
      rw [List.length_map] at lu
      refine ⟨R, us, .ref t, rfl, rfl, e3, small1000 (by omega), fun b o nb e => ?_, ?_, us ++ [.ref t], qs ++ [q], _, _, rfl, upd_same, ?_, by rw [List.length_append, lq]; rfl, fun x hx => ?_⟩
      · rw [upd_ne (ne_of_none e hR)]
        exact st _ _ (d2 _ _ nb (b1 _ _ nb e))
      · obtain ⟨x, y, zz, e, e1, e2, e3, e4⟩ := w2.same st
        exact ⟨x, y, zz, by rw [upd_ne (Ne.symm nR)]; exact e, e1, e2, e3, by omega⟩
      · rw [List.map_append]
        refine PrsAt.app (PrsAt.but (PrsAt.same (PrsAt.well pus d2 w1) st) SameBut.upd e3) (.cons ?_ .nil)
        rw [upd_ne (fun z => by rw [z, e2] at ht; cases ht)]
        exact upd_same
      · rcases List.mem_append.mp hx with hx | hx
        · exact pl x hx
        · rw [List.mem_singleton.mp hx]
          exact pq
    · obtain ⟨b1, w1, us, qs, y5, y6, rfl, eus, pus, lq, pl⟩ := hP
      have lu := pus.len
      rw [List.length_map] at lu
      refine ⟨_, rfl, R, rfl, ⟨_, SqL.of eus⟩, fun D hD => lc_list (K := K) (a := R) (xs := us) (fun i X => Same G X ∧ FrL X D ((qs.take i).map pvq)) ⟨same_new hD, [], upd_same, by rw [List.take_zero]; exact .nil⟩ (fun i X _ hQ => SqL.of (hQ.1 _ _ eus)) (fun i x X hx hQ => ?_) (fun X hQ => ?_)⟩
      · obtain ⟨sX, ws, hw9, fw⟩ := hQ
        obtain ⟨p, n9, o9, rfl, hi, hm, hp⟩ := PrL_get pus hx
        rw [List.getElem?_map] at hi
        obtain ⟨q, hq, e9⟩ := Option.map_eq_some_iff.mp hi
        cases e9
        have hp3 := SqT.of (K := K) (sX _ _ hp)
        have li := (List.getElem?_eq_some_iff.mp hq).1
        refine ⟨rfl, _, rfl, p, _, 0, .int (topP q.num), rfl, rfl, hp3, a0, _, rfl, p, _, 1, .int (q.den : Int), rfl, rfl, hp3, a1, _, _, rfl, den_ge q, ?_, fun t ht => ?_⟩
        · rw [Int.natAbs_natCast]
          exact Nat.lt_of_le_of_lt (pl q (List.mem_of_getElem? hq)).den (Nat.lt_of_lt_of_le (show 1000000000 < 2 ^ 40 by decide) (Nat.pow_le_pow_right (by decide) (by decide)))
        have st := same_new (o := .tup [.int (lowT (topP q.num) q.den), .int (lowB (topP q.num) q.den)]) ht
        have hw3 := st _ _ hw9
        have nl : t ≠ D := fun e => by
          rw [e, hw9] at ht
          cases ht
        have lw := FrsAt.len fw
        rw [List.length_map, List.length_take] at lw
        refine ⟨_, hw3, small1000 (by omega), fun b o e => ?_, ws ++ [.ref t], upd_same, ?_⟩
        · rw [upd_ne (ne_of_none e hD)]
          exact st _ _ (sX _ _ e)
        · rw [show qs.take (i + 1) = qs.take i ++ [q] by rw [List.take_succ, hq]; rfl, List.map_append]
          refine FrsAt.app (PrsAt.but (PrsAt.same fw st) SameBut.upd hw3) (FrsAt.one ?_)
          have f1 : Fr (upd X t (.tup [.int (lowT (topP q.num) q.den), .int (lowB (topP q.num) q.den)])) t (pvq q) := Fr.low (by have := den_ge q; omega) rfl upd_same
          show (upd (upd X t _) D _) t = _
          rw [upd_ne nl]
          exact f1
      · obtain ⟨sX, ws, eD, fw⟩ := hQ
        rw [List.take_of_length_le (by omega)] at fw
        have nD : D ≠ ww := w1.ne hD
        have wX := w1.same sX
        have BX := b1.trans (SameBut.of sX)
        have hD0 : H D = none := but_free b1 hD nD
        have lw := FrsAt.len fw
        rw [List.length_map] at lw
        have pl2 : ∀ q ∈ qs.map pvq, Pl kd q := fun q hq => by
          obtain ⟨x, hx, rfl⟩ := List.mem_map.mp hq
          exact pvq_pl (pl x hx)
        have pos2 : ∀ q ∈ qs.map pvq, 0 < q := fun q hq => by
          obtain ⟨x, hx, rfl⟩ := List.mem_map.mp hq
          exact pvq_pos x
        have lm : (qs.map pvq).length = n := by rw [List.length_map, lq]
        generalize qs.map pvq = rs at *
        have fin0 : (way ≠ 1 ∨ n = 0) → Q (.ref D) X := fun c => k D rs X hD0 BX (wX.mono (by omega)) ⟨ws, eD, fw⟩ lm (fun q hq => (pl2 q hq).d) (fun _ => pos2) fun c1 c2 => by rcases c with c | c <;> omega
        refine ⟨_, rfl, rfl, _, rfl, ite2 (fun c1 => ?_) (fun c1 => iteF ?_)⟩
        · refine ⟨_, rfl, _, _, rfl, rfl, _, rfl, ite2 (fun c2 => ?_) (fun c2 => ?_)⟩
          · have way1 : way = 1 := V.int.inj (toB c1)
            have n1 := toB c2
            refine ⟨_, rfl, _, rfl, ww, _, n, rfl, wX, by omega, by omega, by omega, fun r1 X1 r10 r11 d1 f1 w1 => ?_⟩
            obtain ⟨t, rfl⟩ : ∃ t : Nat, r1 = t := ⟨r1.toNat, by omega⟩
            have ht : t < ws.length := by omega
            have nDw := nD
            have eD1 := d1 _ _ nD eD
            obtain ⟨p, q, e1, hq, hp⟩ : ∃ p q, ws[t]? = some (.ref p) ∧ rs[t]? = some q ∧ Fr X p q := by
              have e := List.getElem?_eq_getElem ht
              obtain ⟨p, q, e2, e3, e4⟩ := FrsAt.get fw e
              exact ⟨p, q, by rw [e, e2], e3, e4⟩
            have hp1 : Fr X1 p q := hp.well d1 wX
            refine ⟨_, rfl, (by show 2 ≤ sizeLine; decide), fun t0 ht0 => ?_⟩
            have s0 := same_new (o := .tup [.int 0, .int 1]) ht0
            refine ⟨_, rfl, _, rfl, D, ws, (t : Nat), .ref p, rfl, rfl, SqL.of (s0 _ _ eD1), atI_nat e1, p, _, 0, .int q.num, rfl, rfl, SqT.of (s0 _ _ hp1), a0, _, _, rfl, rfl, ?_⟩
            refine ⟨_, rfl, _, rfl, D, ws, (t : Nat), .ref p, rfl, rfl, SqL.of (s0 _ _ eD1), atI_nat e1, p, _, 1, .int (q.den : Int), rfl, rfl, SqT.of (s0 _ _ hp1), a1, (by show 2 ≤ sizeLine; decide), fun t2 ht2 => ?_⟩
            have s2 := same_new (o := .tup [.int (0 - q.num), .int (q.den : Int)]) ht2
            refine ⟨1, rfl, _, _, rfl, rfl, ⟨by decide, by decide, by decide⟩, (by show 2 ≤ sizeLine; decide), fun t3 ht3 => ⟨(by show 3 ≤ sizeLine; decide), fun l hl => ?_⟩⟩
            have s3 := same_new (o := .tup [.int (-1), .int ((10 : Int) ^ (9 : Int).toNat)]) ht3
            have s4 := same_new (o := .lst [.ref t0, .ref t2, .ref t3]) hl
            have S4 := s0.trans (s2.trans (s3.trans s4))
            have w4 := w1.same S4
            refine ⟨ww, l, _, _, rfl, w4, by omega, (w1.same (s0.trans (s2.trans s3))).ne hl, upd_same, by show 0 < 3; decide, by show 3 ≤ 1000; decide, fun v hv H2 d2 f2 w5 => ?_⟩
            have F0 : Fr _ t0 0 := nul_fr (s4 _ _ (s3 _ _ (s2 _ _ upd_same)))
            have F2 : Fr _ t2 (-q) := neg_fr (s4 _ _ (s3 _ _ upd_same))
            have F3 : Fr _ t3 (Rat.divInt (-1) 1000000000) := tiny_fr (s4 _ _ upd_same)
            have mq := List.mem_of_getElem? hq
            have q0 := pos2 q mq
            obtain ⟨pv9, x9, rfl, hf9, hx9, hx8⟩ : ∃ p x, v = .ref p ∧ Fr H2 p x ∧ PlD kd x ∧ x ≤ 0 := by
              simp only [List.mem_cons, List.not_mem_nil, or_false] at hv
              rcases hv with rfl | rfl | rfl
              · exact ⟨t0, 0, rfl, F0.well d2 w4, (pl_zero kd).d, by decide +kernel⟩
              · exact ⟨t2, -q, rfl, F2.well d2 w4, (pl2 q mq).d.neg, by grind⟩
              · exact ⟨t3, _, rfl, F3.well d2 w4, PlD.tiny kd, tiny_low⟩
            have eD2 := d2 _ _ nD (S4 _ _ eD1)
            have fw2 := (PrsAt.same (PrsAt.well fw d1 wX) S4).well d2 w4
            refine ⟨_, rfl, _, rfl, D, ws, (t : Nat), t, rfl, rfl, eD2, ixZ ht, ?_⟩
            have B9 := (BX.trans d1).trans ((SameBut.of S4).trans d2)
            refine ⟨_, rfl, k D (rs.set t x9) _ hD0 (fun b o nb e => ?_) ?_ ⟨_, upd_same, PrsAt.but (FrsAt.set hf9 t fw2) SameBut.upd eD2⟩ (by rw [List.length_set, lm]) (fun y hy => ?_) (fun c => by rcases c with c | c <;> omega) fun _ _ => ⟨t, by omega, ?_⟩⟩
            · rw [upd_ne (ne_of_none e hD0)]
              exact B9 _ _ nb e
            · obtain ⟨x, y, zz, e, e1, e2, e3, e4⟩ := w5
              exact ⟨x, y, zz, by rw [upd_ne (Ne.symm nD)]; exact e, e1, e2, e3, by omega⟩
            · rcases List.mem_or_eq_of_mem_set hy with h | h
              · exact (pl2 y h).d
              · rw [h]
                exact hx9
            · rw [List.getD_eq_getElem?_getD, List.getElem?_set_self (by have := (List.getElem?_eq_some_iff.mp hq).1; omega)]
              exact hx8
          · have n1 := toNB c2
            exact ⟨_, rfl, fin0 (.inr (by omega))⟩
        · have way1 : way ≠ 1 := fun e => c1 (decide_eq_true (by rw [e]))
          exact ⟨_, rfl, fin0 (.inl way1)⟩
end
end E1

namespace E1
open PySem PySem.Spec PyProof.Rows L2

theorem rep_flat (x : V) : ∀ n, (List.replicate n [x]).flatten = List.replicate n x
  | 0 => rfl
  | n + 1 => by rw [List.replicate_succ, List.flatten_cons, rep_flat x n]; rfl
/-- rows that are lists of their own -/
structure Grid (G : Hp) (R : Addr) (bs : List Addr) (n : Nat) (M : Nat → Nat → Rat) : Prop where
  top : G R = some (.lst (bs.map V.ref))
  len : bs.length = n
  nod : bs.Nodup
  off : ∀ b ∈ bs, b ≠ R
  row : ∀ (i : Nat) (b : Addr), bs[i]? = some b → FrL G b ((List.range n).map (M i))
theorem Grid.same {G G' : Hp} {R : Addr} {bs : List Addr} {n : Nat} {M : Nat → Nat → Rat} (h : Grid G R bs n M) (e : Same G G') : Grid G' R bs n M := ⟨e _ _ h.top, h.len, h.nod, h.off, fun i b q => (h.row i b q).same e⟩
theorem Grid.well {G G' : Hp} {R w : Addr} {bs : List Addr} {n : Nat} {M : Nat → Nat → Rat} {c : Int} (h : Grid G R bs n M) (e : SameBut w G G') (hw : WellAt G w c) (ne : R ≠ w) : Grid G' R bs n M := ⟨e _ _ ne h.top, h.len, h.nod, h.off, fun i b q => (h.row i b q).well e hw ((h.row i b q).nw hw)⟩
theorem range_set (f : Nat → Rat) (n j : Nat) (q : Rat) : ((List.range n).map f).set j q = (List.range n).map fun c => if c = j then q else f c := by
  refine List.ext_getElem? fun i => ?_
  rw [List.getElem?_set, List.getElem?_map, List.getElem?_map, List.length_map, List.length_range]
  by_cases h : i < n
  · rw [List.getElem?_range h]
    by_cases e : j = i
    · subst e
      simp [h]
    · simp [e, Ne.symm e, show i ≠ j from fun z => e z.symm]
  · rw [List.getElem?_eq_none (by rw [List.length_range]; omega)]
    by_cases e : j = i
    · subst e
      simp [h]
    · simp [e]
def setM (M : Nat → Nat → Rat) (i j : Nat) (q : Rat) : Nat → Nat → Rat := fun a c => if a = i ∧ c = j then q else M a c
theorem setM_sym {M : Nat → Nat → Rat} (h : ∀ a b, M a b = M b a) (i j : Nat) (q : Rat) : ∀ a b, setM (setM M i j q) j i q a b = setM (setM M i j q) j i q b a := fun a b => by
  unfold setM
  have := h a b
  by_cases h1 : a = i <;> by_cases h2 : a = j <;> by_cases h3 : b = i <;> by_cases h4 : b = j <;> simp_all
theorem Grid.set {G : Hp} {R b p : Addr} {bs : List Addr} {n i j : Nat} {M : Nat → Nat → Rat} {q : Rat} {vs : List V} (h : Grid G R bs n M) (hb : bs[i]? = some b) (hv : G b = some (.lst vs)) (hf : FrsAt G vs ((List.range n).map (M i))) (hp : Fr G p q) :
    Grid (upd G b (.lst (vs.set j (.ref p)))) R bs n (setM M i j q) := by
  refine ⟨?_, h.len, h.nod, h.off, fun a b2 e => ?_⟩
  · rw [upd_ne (Ne.symm (h.off b (List.mem_of_getElem? hb)))]
    exact h.top
  · by_cases c : b2 = b
    · subst c
      have ea : a = i := by
        have l1 := (List.getElem?_eq_some_iff.mp e).1
        have l2 := (List.getElem?_eq_some_iff.mp hb).1
        exact (List.getElem?_inj l1 h.nod).mp (e.trans hb.symm)
      subst ea
      refine ⟨_, upd_same, ?_⟩
      have e2 : (List.range n).map (setM M a j q a) = ((List.range n).map (M a)).set j q := by
        rw [range_set]
        refine List.map_congr_left fun c _ => ?_
        unfold setM
        simp
      rw [e2]
      exact PrsAt.but (FrsAt.set hp j hf) SameBut.upd hv
    · have na : a ≠ i := fun z => by
        subst z
        rw [hb] at e
        exact c (Option.some.inj e).symm
      have e2 : (List.range n).map (setM M i j q a) = (List.range n).map (M a) := List.map_congr_left fun c _ => by
        unfold setM
        rw [if_neg (fun z => na z.1)]
      rw [e2]
      exact (h.row a b2 e).but c SameBut.upd hv
theorem Grid.sel {G : Hp} {R : Addr} {bs : List Addr} {n : Nat} {M : Nat → Nat → Rat} (h : Grid G R bs n M) : SeL G (bs.map V.ref) ((List.range n).map fun i => (List.range n).map (M i)) := by
  refine ⟨by rw [List.length_map, List.length_map, List.length_range, h.len], fun i r e => ?_⟩
  have li := (List.getElem?_eq_some_iff.mp e).1
  rw [List.length_map, List.length_range] at li
  rw [List.getElem?_map, List.getElem?_range li] at e
  cases e
  have eb : bs[i]? = some (bs[i]'(by rw [h.len]; exact li)) := List.getElem?_eq_getElem _
  exact ⟨_, by rw [List.getElem?_map, eb]; rfl, h.row i _ eb⟩
theorem tab_ad {n : Nat} {M : Nat → Nat → Rat} {i j : Nat} (hi : i < n) (hj : j < n) : ad ((List.range n).map fun i => (List.range n).map (M i)) i j = M i j := by
  unfold ad
  rw [List.getD_eq_getElem?_getD, List.getD_eq_getElem?_getD (l := (List.range n).map fun i => (List.range n).map (M i)), List.getElem?_map, List.getElem?_range hi]
  show (((List.range n).map (M i))[j]?).getD 0 = _
  rw [List.getElem?_map, List.getElem?_range hj]
  rfl
/-- square, symmetric, of places -/
structure SymP (kd : Int) (n : Nat) (A : List (List Rat)) : Prop where
  len : A.length = n
  wid : ∀ r ∈ A, r.length = n
  pl : ∀ r ∈ A, ∀ q ∈ r, Pl kd q
  sym : ∀ i j, i < n → j < n → ad A i j = ad A j i
def spSquare : Sp := fun vs H Q _ => ∃ (w : Addr) (c kd : Int) (n : Nat), vs = [.ref w, .int (n : Nat), .int kd] ∧ WellAt H w c ∧ c ≤ 10000 ∧ n ≤ 10 ∧
  ∀ p us A H', H p = none → SameBut w H H' → WellAt H' w (c + 400) → H' p = some (.lst us) → SeL H' us A → SymP kd n A → Q (.ref p) H'
section
variable {P : Program} {w : World} {K : PySem.W.Frag} {mg : Str → Option Value} {base : Heap}
theorem sc__law_square : FnScope ["_law_well_here", "_law_many", "_law_kind", "_law_rows", "_law_i", "_law_j", "_law_k"] ["_law_well_here", "_law_many", "_law_kind"] (defScope s__law_square) := ⟨rfl, rfl, rfl, by decide +kernel, rfl, by decide +kernel, by decide +kernel⟩
theorem ok__law_square {f : Addr} {fd : FuncData} (F : Fun K "_law_square" "_law_square" s__law_square f fd) (z : Zs mg) (c__law_place : Cal P w K mg base 2 "_law_place" ["_law_well_here", "_law_kind"] spPlace) : FnOk P w K mg base CX0 3 f fd ["_law_well_here", "_law_many", "_law_kind"] spSquare := by
  refine F.ok sc__law_square (fun vs H Q E h => ?_) (fun cdv A outer s H vs Q E hr h => ?_)
  · obtain ⟨ww, c, kd, n, rfl, _⟩ := h
    rfl
  · obtain ⟨ww, c, kd, n, rfl, hw, hc, n10, k⟩ := h
    refine ⟨_, (pss_cons (ps_setLc (i := 3) (own := [("_law_k", 6)]) (g := gName 6) (tt := tYes) (te := tOp rRep (tLst (tCons (tTup (tCons (tC (.int 0)) (tCons (tC (.int 1)) tNil))) tNil)) (tVar 1)) (by rfl) sc__law_square.nd rfl rfl (sw_true rfl rfl rfl (by decide +kernel)) (pi_range1 (by rfl) z.range (pa_cons (pv 1) pa_nil)) (blkOk_by (own := [("_law_k", 6)]) (N := ["_law_well_here", "_law_many", "_law_kind", "_law_rows", "_law_i", "_law_j", "_law_k"]) (sc := defScope s__law_square) (by decide +kernel)) (fun _ _ _ _ _ => by exact (pg_name (i := 6) sc__law_square.nd rfl (.inl rfl))) (fun _ _ _ _ _ => by exact pts_nil) (fun _ _ _ _ _ => by exact (pe_op op_rep (pe_lst (pa_cons (pe_tup (pa_cons pe_int (pa_cons pe_int pa_nil))) pa_nil)) (pv 1))))
      (pss_cons (ps_for PassesOwn.never rfl (pi_range1 (by rfl) z.range (pa_cons (pv 1) pa_nil)) (pg_name (i := 4) sc__law_square.nd rfl (.inl rfl)) (pss_one (ps_for PassesOwn.never rfl (pi_range1 (by rfl) z.range (pa_cons (pe_op op_add (pv 4) pe_int) pa_nil)) (pg_name (i := 5) sc__law_square.nd rfl (.inl rfl)) (pss_cons (ps_asg (pe_cal c__law_place hr (pa_cons (pv 0) (pa_cons (pv 2) pa_nil))) (pg_sub (pe_ix ix_list (pv 3) (pv 4) (fun _ _ => rfl)) (pv 5) set_list))
      (pss_one (ps_asg (pe_ix ix_list (pe_ix ix_list (pv 3) (pv 4) (fun _ _ => rfl)) (pv 5) (fun _ _ => rfl)) (pg_sub (pe_ix ix_list (pv 3) (pv 5) (fun _ _ => rfl)) (pv 4) set_list)))))))
      (pss_one (ps_ret (pv 3))))), ?_⟩
    refine ⟨_, rfl, n, rfl, by omega, by omega, fun R hR => ?_⟩
    rw [Int.toNat_natCast]
    have nR := hw.ne hR
    refine lc_range (lo := 0) (n := n) (fun i G => Same H G ∧ ∃ bs : List Addr, G R = some (.lst (bs.map V.ref)) ∧ bs.length = i ∧ bs.Nodup ∧ (∀ b ∈ bs, b ≠ R) ∧ (∀ b ∈ bs, H b = none) ∧ ∀ b ∈ bs, FrL G b ((List.range n).map fun _ => 0)) ⟨same_new hR, [], upd_same, rfl, .nil, (fun b hb => absurd hb List.not_mem_nil), (fun b hb => absurd hb List.not_mem_nil), fun b hb => absurd hb List.not_mem_nil⟩ (fun i G hi hP => ?_) (fun G hP => ?_)
    · obtain ⟨sG, bs, eR, lb, nd, off, hn, rows⟩ := hP
      refine ⟨rfl, (by show 2 ≤ sizeLine; decide), fun t0 ht0 => ⟨(by show 1 ≤ sizeLine; decide), fun l3 hl3 => ?_⟩⟩
      have s4 := same_new (o := .tup [.int 0, .int 1]) ht0
      have s5 := same_new (o := .lst [.ref t0]) hl3
      refine ⟨_, rfl, l3, (n : Nat), [.ref t0], rfl, rfl, upd_same, by omega, by omega, Nat.le_trans (show 1 * ((n : Nat) : Int).toNat ≤ 1000 by omega) (by decide), fun l4 hl4 => ?_⟩
      rw [rep_flat, Int.toNat_natCast]
      have s6 := same_new (o := .lst (List.replicate n (V.ref t0))) hl4
      have S6 := s4.trans (s5.trans s6)
      have eR6 := S6 _ _ eR
      have nl4 : l4 ≠ R := fun e => by
        rw [e, s5 _ _ (s4 _ _ eR)] at hl4
        cases hl4
      have f0 : Fr _ t0 0 := nul_fr (s6 _ _ (s5 _ _ upd_same))
      have er : (List.range n).map (fun _ => (0 : Rat)) = List.replicate n 0 := by
        rw [List.map_const', List.length_range]
      have f4 : FrL _ l4 ((List.range n).map fun _ => 0) := ⟨_, upd_same, by rw [er]; exact FrsAt.rep f0 n⟩
      refine ⟨_, eR6, by rw [List.length_map]; exact small1000 (by omega), fun b o e => ?_, bs ++ [l4], by rw [upd_same, List.map_append]; rfl, by rw [List.length_append, lb]; rfl, ?_, fun b hb => ?_, fun b hb => ?_, fun b hb => ?_⟩
      · rw [upd_ne (ne_of_none e hR)]
        exact S6 _ _ (sG _ _ e)
      · refine List.nodup_append.mpr ⟨nd, by simp, fun x hx y hy e => ?_⟩
        rw [List.mem_singleton.mp hy] at e
        obtain ⟨vs, e9, _⟩ := rows x hx
        have e8 := (s4.trans s5) _ _ e9
        rw [e, hl4] at e8
        cases e8
      · rcases List.mem_append.mp hb with h | h
        · exact off b h
        · rw [List.mem_singleton.mp h]
          exact nl4
      · rcases List.mem_append.mp hb with h | h
        · exact hn b h
        · rw [List.mem_singleton.mp h]
          exact sG.free ((s4.trans s5).free hl4)
      · rcases List.mem_append.mp hb with h | h
        · exact ((rows b h).same S6).but (off b h) SameBut.upd eR6
        · rw [List.mem_singleton.mp h]
          exact f4.but nl4 SameBut.upd eR6
    · obtain ⟨sG, bs, eR, lb, nd, off, hn, rows⟩ := hP
      have gr0 : Grid G R bs n (fun _ _ => 0) := ⟨eR, lb, nd, off, fun i b e => rows b (List.mem_of_getElem? e)⟩
      refine ⟨_, rfl, n, rfl, by omega, by omega, for_range (lo := 0) (n := n) (fun i σ G2 => SameBut ww H G2 ∧ WellAt G2 ww (c + 22 * (i : Int)) ∧ ∃ (M : Nat → Nat → Rat) (y4 y5 : Option V), σ = [some (.ref ww), some (.int (n : Nat)), some (.int kd), some (.ref R), y4, y5, none] ∧ Grid G2 R bs n M ∧ (∀ a b, M a b = M b a) ∧ ∀ a b, Pl kd (M a b)) ⟨SameBut.of sG, (hw.same sG).mono (by omega), _, none, none, rfl, gr0, (fun a b => rfl), fun a b => pl_zero kd⟩ (fun i σ G2 hi hP => ?_) (fun σ G2 hP => ?_)⟩
      · obtain ⟨b1, w1, M, y4, y5, rfl, gr, sy, pl⟩ := hP
        rw [Int.zero_add]
        refine ⟨_, rfl, _, _, rfl, rfl, ((i + 1 : Nat) : Int), rfl, by omega, by omega, ?_⟩
        rw [Int.toNat_natCast]
        refine for_range (lo := 0) (n := i + 1) (fun j σ G3 => SameBut ww H G3 ∧ WellAt G3 ww (c + 22 * (i : Int) + 2 * (j : Int)) ∧ ∃ (M : Nat → Nat → Rat) (y5 : Option V), σ = [some (.ref ww), some (.int (n : Nat)), some (.int kd), some (.ref R), some (.int (i : Nat)), y5, none] ∧ Grid G3 R bs n M ∧ (∀ a b, M a b = M b a) ∧ ∀ a b, Pl kd (M a b)) ⟨b1, w1.mono (by omega), M, y5, rfl, gr, sy, pl⟩ (fun j σ G3 hj hP3 => ?_) (fun σ G3 hP3 => ?_)
        · obtain ⟨b3, w3, M, y5, rfl, gr, sy, pl⟩ := hP3
          rw [Int.zero_add]
          refine ⟨_, rfl, _, rfl, ww, _, kd, rfl, w3, by omega, fun p q G4 hp d4 w4 f4 pq => ?_⟩
          have gr4 := gr.well d4 w3 nR
          have B4 := b3.trans d4
          obtain ⟨bi, ebi⟩ : ∃ b, bs[i]? = some b := ⟨_, List.getElem?_eq_getElem (by rw [lb]; exact hi)⟩
          obtain ⟨bj, ebj⟩ : ∃ b, bs[j]? = some b := ⟨_, List.getElem?_eq_getElem (by rw [lb]; omega)⟩
          obtain ⟨vs, hv, fv⟩ := gr4.row i bi ebi
          have lv := FrsAt.len fv
          rw [List.length_map, List.length_range] at lv
          refine ⟨_, rfl, _, rfl, R, _, (i : Nat), .ref bi, rfl, rfl, SqL.of gr4.top, atI_nat (by rw [List.getElem?_map, ebi]; rfl), _, rfl, bi, vs, (j : Nat), j, rfl, rfl, hv, ixZ (by omega), ?_⟩
          have g5 := gr4.set ebi hv fv f4 (j := j)
          have B5 : SameBut ww H (upd G4 bi (.lst (vs.set j (.ref p)))) := fun x o nx e => by
            rw [upd_ne (ne_of_none e (hn bi (List.mem_of_getElem? ebi)))]
            exact B4 _ _ nx e
          have nbw := (gr4.row i bi ebi).nw w4
          have w5 : WellAt (upd G4 bi (.lst (vs.set j (.ref p)))) ww (c + 22 * (i : Int) + 2 * (j : Int) + 2) := by
            obtain ⟨x, y, zz, e, e1, e2, e3, e4⟩ := w4
            exact ⟨x, y, zz, by rw [upd_ne (Ne.symm nbw)]; exact e, e1, e2, e3, e4⟩
          generalize upd G4 bi (.lst (vs.set j (.ref p))) = G5 at g5 B5 w5 ⊢
          obtain ⟨vs5, hv5, fv5⟩ := g5.row i bi ebi
          have lv5 := FrsAt.len fv5
          rw [List.length_map, List.length_range] at lv5
          obtain ⟨p5, e5, f5⟩ : ∃ p, vs5[j]? = some (.ref p) ∧ Fr G5 p (setM M i j q i j) := by
            obtain ⟨p, f1, f2⟩ := FrsAt.at fv5 (show ((List.range n).map (setM M i j q i))[j]? = some (setM M i j q i j) by rw [List.getElem?_map, List.getElem?_range (by omega)]; rfl)
            exact ⟨p, f1, f2⟩
          have f5 : Fr G5 p5 q := by
            have e : setM M i j q i j = q := by unfold setM; rw [if_pos ⟨rfl, rfl⟩]
            rw [e] at f5
            exact f5
          refine ⟨_, rfl, _, rfl, R, _, (i : Nat), .ref bi, rfl, rfl, SqL.of g5.top, atI_nat (by rw [List.getElem?_map, ebi]; rfl), ?_⟩
          refine ⟨_, rfl, bi, vs5, (j : Nat), .ref p5, rfl, rfl, SqL.of hv5, atI_nat e5, ?_⟩
          obtain ⟨us5, hu5, fu5⟩ := g5.row j bj ebj
          have lu5 := FrsAt.len fu5
          rw [List.length_map, List.length_range] at lu5
          refine ⟨_, rfl, _, rfl, R, _, (j : Nat), .ref bj, rfl, rfl, SqL.of g5.top, atI_nat (by rw [List.getElem?_map, ebj]; rfl), _, rfl, bj, us5, (i : Nat), i, rfl, rfl, hu5, ixZ (by omega), ?_⟩
          have g6 := g5.set ebj hu5 fu5 f5 (j := i)
          have nbw6 := (g5.row j bj ebj).nw w5
          refine ⟨fun x o nx e => ?_, ?_, _, _, rfl, g6, setM_sym sy i j q, fun a b => ?_⟩
          · rw [upd_ne (ne_of_none e (hn bj (List.mem_of_getElem? ebj)))]
            exact B5 _ _ nx e
          · obtain ⟨x, y, zz, e, e1, e2, e3, e4⟩ := w5
            exact ⟨x, y, zz, by rw [upd_ne (Ne.symm nbw6)]; exact e, e1, e2, e3, by omega⟩
          · unfold setM
            split
            · exact pq
            · split
              · exact pq
              · exact pl a b
        · obtain ⟨b3, w3, M, y5, rfl, gr, sy, pl⟩ := hP3
          exact ⟨b3, w3.mono (by omega), M, _, _, rfl, gr, sy, pl⟩
      · obtain ⟨b1, w1, M, y4, y5, rfl, gr, sy, pl⟩ := hP
        refine ⟨_, rfl, k R _ _ G2 hR b1 (w1.mono (by omega)) gr.top gr.sel ⟨by rw [List.length_map, List.length_range], fun r hr => ?_, fun r hr q hq => ?_, fun a b ha hb => ?_⟩⟩
        · obtain ⟨a, ha, rfl⟩ := List.mem_map.mp hr
          rw [List.length_map, List.length_range]
        · obtain ⟨a, ha, rfl⟩ := List.mem_map.mp hr
          obtain ⟨b, hb, rfl⟩ := List.mem_map.mp hq
          exact pl a b
        · rw [tab_ad ha hb, tab_ad hb ha]
          exact sy a b
end
end E1

namespace E1
open PySem PySem.Spec PyProof.Rows L2

theorem Dn.list {kd : Int} : ∀ xs : List Rat, (∀ q ∈ xs, Pl kd q) → ∃ D, Dn kd xs.length D ∧ ∀ q ∈ xs, SM D (mP kd) q
  | [], _ => let ⟨D, h⟩ := Dn.start kd; ⟨D, h, fun q hq => by cases hq⟩
  | x :: xs, h => by
    obtain ⟨D, d1, d2⟩ := Dn.list xs fun q hq => h q (List.mem_cons_of_mem _ hq)
    obtain ⟨D', e1, e2, e3⟩ := d1.more (h x (List.mem_cons_self ..))
    refine ⟨D', e1, fun q hq => ?_⟩
    rcases List.mem_cons.mp hq with rfl | hq
    · exact e3
    · exact e2 _ _ (d2 q hq)
theorem dot_sm {D E : Int} {M N : Nat} : ∀ xs ys : List Rat, (∀ x ∈ xs, SM D M x) → (∀ y ∈ ys, SM E N y) → SM (D * E) (xs.length * (M * N)) (dotR xs ys)
  | [], ys, _, _ => by
    have : dotR [] ys = 0 := by cases ys <;> rfl
    rw [this]
    exact SM.zero
  | x :: xs, [], _, _ => SM.zero
  | x :: xs, y :: ys, hx, hy => by
    have i := dot_sm xs ys (fun q hq => hx q (List.mem_cons_of_mem _ hq)) fun q hq => hy q (List.mem_cons_of_mem _ hq)
    have m := (hx x (List.mem_cons_self ..)).mul (hy y (List.mem_cons_self ..))
    show SM (D * E) _ (x * y + dotR xs ys)
    exact (m.add i).mono (by rw [List.length_cons, Nat.add_mul, Nat.one_mul, Nat.add_comm]; exact Nat.le_refl _)
theorem sm_bits {D : Int} {M n : Nat} {q : Rat} (h : SM D M q) (hD : D ≠ 0) (b1 : D.natAbs < 2 ^ n) (b2 : M * D.natAbs < 2 ^ n) : Bq n q := by
  obtain ⟨h1, h2⟩ := Sc.bits h hD b1 b2
  rw [Int.natAbs_natCast] at h2
  exact ⟨h1, h2⟩
/-- a dot whose sides have a bottom each -/
theorem dotok_sm {xs ys : List Rat} {D E : Int} {M N a b p : Nat} (hl : xs.length = ys.length) (l10 : ys.length ≤ 10) (D0 : D ≠ 0) (E0 : E ≠ 0) (hx : ∀ x ∈ xs, SM D M x) (hy : ∀ y ∈ ys, SM E N y)
    (a1 : D.natAbs < 2 ^ a) (a2 : M * D.natAbs < 2 ^ a) (b1 : E.natAbs < 2 ^ b) (b2 : N * E.natAbs < 2 ^ b) (ha : 0 < a) (ha9 : a ≤ 4400) (hb9 : b ≤ 4400) (hp : a + b + 4 ≤ p) (p9 : p ≤ 4350) : DotOk xs ys p p := by
  have DE : D * E ≠ 0 := Int.mul_ne_zero D0 E0
  have e1 : (D * E).natAbs < 2 ^ p := by
    rw [Int.natAbs_mul]
    have := Nat.mul_lt_mul'' a1 b1
    rw [← Nat.pow_add] at this
    exact Nat.lt_of_lt_of_le this (Nat.pow_le_pow_right (by decide) (by omega))
  have e2 : (M * D.natAbs) * (N * E.natAbs) < 2 ^ (a + b) := by
    have := Nat.mul_lt_mul'' a2 b2
    rw [← Nat.pow_add] at this
    exact this
  refine ⟨hl, l10, by omega, by omega, by omega, fun q hq => (sm_bits (hx q hq) D0 a1 a2).mono ha9, fun q hq => (sm_bits (hy q hq) E0 b1 b2).mono hb9, fun k x y h1 h2 => ?_, fun k hk => ?_⟩
  · have sx := sm_bits (hx x (List.mem_of_getElem? h1)) D0 a1 a2
    have sy := sm_bits (hy y (List.mem_of_getElem? h2)) E0 b1 b2
    have up9 : 2 ^ (a + b) ≤ 2 ^ p := Nat.pow_le_pow_right (by decide) (by omega)
    constructor
    · rw [Int.natAbs_mul]
      have := Nat.mul_lt_mul'' sx.1 sy.1
      rw [← Nat.pow_add] at this
      exact Nat.lt_of_lt_of_le this up9
    · have := Nat.mul_lt_mul'' sx.2 sy.2
      rw [← Nat.pow_add] at this
      exact Nat.lt_of_lt_of_le this up9
  · have s := dot_sm (xs.take k) (ys.take k) (fun x hx9 => hx x (List.mem_of_mem_take hx9)) fun y hy9 => hy y (List.mem_of_mem_take hy9)
    refine sm_bits s DE e1 ?_
    have l1 : (xs.take k).length ≤ 10 := by
      rw [List.length_take]
      omega
    rw [Int.natAbs_mul, Nat.mul_assoc, show M * N * (D.natAbs * E.natAbs) = (M * D.natAbs) * (N * E.natAbs) by rw [Nat.mul_mul_mul_comm]]
    refine Nat.lt_of_le_of_lt (Nat.mul_le_mul l1 (Nat.le_of_lt e2)) ?_
    have : 2 ^ (a + b + 4) ≤ 2 ^ p := Nat.pow_le_pow_right (by decide) hp
    rw [Nat.pow_add] at this
    have pos : 0 < 2 ^ (a + b) := Nat.pow_pos (by decide)
    omega
theorem Dn.sz {kd : Int} {k : Nat} {D : Int} (h : Dn kd k D) {n : Nat} (h4 : 4 ≤ n) (hk : kd ≠ 0 → 30 * k < n) : D.natAbs < 2 ^ n := by
  by_cases c : kd = 0
  · rw [h.z c]
    exact Nat.lt_of_lt_of_le (show (12 : Int).natAbs < 2 ^ 4 by decide) (Nat.pow_le_pow_right (by decide) h4)
  · exact Nat.lt_of_le_of_lt (h.nz c) (Nat.pow_lt_pow_right (by decide) (hk c))
theorem mP_le (kd : Int) : mP kd ≤ 2 ^ 30 := by unfold mP; split <;> decide +kernel
theorem Dn.szM {kd : Int} {k : Nat} {D : Int} (h : Dn kd k D) {n : Nat} (h4 : 4 ≤ n) (hk : kd ≠ 0 → 30 * k < n) : mP kd * D.natAbs < 2 ^ (n + 30) := by
  rw [Nat.add_comm, Nat.pow_add]
  exact Nat.mul_lt_mul_of_le_of_lt (mP_le kd) (h.sz h4 hk) (Nat.pow_pos (by decide))
def NK (kd : Int) (n : Nat) : Prop := n ≤ 10 ∧ (kd ≠ 0 → n ≤ 4)
/-- a dot of places -/
theorem dotok_pl {kd : Int} {m : Nat} {xs ys : List Rat} (nk : NK kd m) (lx : xs.length = m) (ly : ys.length = m) (hx : ∀ q ∈ xs, Pl kd q) (hy : ∀ q ∈ ys, Pl kd q) : DotOk xs ys 400 400 := by
  obtain ⟨D, d1, d2⟩ := Dn.list xs hx
  obtain ⟨E, e1, e2⟩ := Dn.list ys hy
  rw [lx] at d1
  rw [ly] at e1
  have h1 : kd ≠ 0 → 30 * m < 121 := fun c => by
    have := nk.2 c
    omega
  exact dotok_sm (a := 151) (b := 151) (by rw [lx, ly]) (by rw [ly]; exact nk.1) d1.ne e1.ne d2 e2 (d1.sz (by omega) fun c => by have := h1 c; omega) (d1.szM (n := 121) (by omega) h1) (e1.sz (by omega) fun c => by have := h1 c; omega) (e1.szM (n := 121) (by omega) h1) (by omega) (by omega) (by omega) (by omega) (by omega)
def gramR (C : List (List Rat)) : List (List Rat) := C.map fun r => C.map fun s => dotR r s
def spOwn : Sp := fun vs H Q _ => ∃ (w : Addr) (c kd : Int) (n : Nat), vs = [.ref w, .int (n : Nat), .int kd] ∧ WellAt H w c ∧ c ≤ 10000 ∧ NK kd n ∧
  ∀ p us C m H', H p = none → SameBut w H H' → WellAt H' w (c + 400) → H' p = some (.lst us) → SeL H' us (gramR C) → C.length = n → m ≤ n → (∀ r ∈ C, r.length = m ∧ ∀ q ∈ r, Pl kd q) → Q (.ref p) H'
def besR (A : List (List Rat)) : List (List Rat) := (A.map fun r => r ++ [0]) ++ [List.replicate A.length 0 ++ [1]]
def spBeside : Sp := fun vs H Q _ => ∃ (a : Addr) (ws : List V) (A : List (List Rat)), vs = [.ref a] ∧ H a = some (.lst ws) ∧ SeL H ws A ∧ A.length ≤ 10 ∧ (∀ r ∈ A, r.length ≤ 10) ∧ ∀ p us H', H p = none → Same H H' → H' p = some (.lst us) → SeL H' us (besR A) → Q (.ref p) H'
theorem sqT_ty {K : PySem.W.Frag} {H : Hp} {a : Addr} {xs : List V} (h : SqT K H a xs) : TyX K H (.ref a) (.type "tuple") := by
  rcases h with (h | ⟨o, h⟩) | ⟨o, _, _, h1, h2, _⟩
  · exact .base (.tup h)
  · exact .fTuple h
  · exact .kTuple h1 h2
theorem dpK {K : PySem.W.Frag} {H : Hp} {p : Addr} {q : Rat} (h : SqT K H p [.int q.num, .int (q.den : Int)]) : Dp K H (.ref p) (frD q) := .tup h (.cons (.int _) (.cons (.int _) .nil))
theorem FrsK.dp {K : PySem.W.Frag} {H : Hp} : ∀ {qs : List Rat} {vs : List V}, FrsK K H vs qs → DpAll K H vs (qs.map frD)
  | [], vs, h => by
    have : vs = [] := List.length_eq_zero_iff.mp h.1
    subst this
    exact .nil
  | q :: qs, [], h => by
    have := h.1
    cases this
  | q :: qs, v :: vs, h => by
    obtain ⟨p, e, f⟩ := h.2 0 q rfl
    cases e
    exact .cons (dpK f) (FrsK.dp ⟨Nat.succ.inj h.1, fun i r hr => h.2 (i + 1) r hr⟩)
theorem FrLK.dp {K : PySem.W.Frag} {H : Hp} {a : Addr} {qs : List Rat} (h : FrLK K H a qs) : Dp K H (.ref a) (.list (qs.map frD)) := by
  obtain ⟨vs, e, r⟩ := h
  exact .lst (SqL.of e) r.dp
def spNo : Sp := fun _ _ _ _ => False
def spPlT (K : PySem.W.Frag) : Sp := fun vs H Q _ => ∃ (p : Addr) (q : Rat), vs = [.ref p] ∧ SqT K H p [.int q.num, .int (q.den : Int)] ∧ ((q.den : Int)).natAbs < 2 ^ 8800 ∧ ∀ H', Same H H' → Q (.bl true) H'
def spPlL (K : PySem.W.Frag) : Sp := fun vs H Q _ => ∃ (a : Addr) (qs : List Rat), vs = [.ref a] ∧ FrLK K H a qs ∧ qs.length ≤ 1000 ∧ (∀ q ∈ qs, ((q.den : Int)).natAbs < 2 ^ 8800) ∧ ∀ H', Same H H' → Q (.bl true) H'
theorem low_self (q : Rat) : lowT q.num q.den = q.num ∧ lowB q.num q.den = (q.den : Int) := by
  rw [← (lowTP (t := q.num) (den_ge q)).1, ← (lowTP (t := q.num) (den_ge q)).2, q_gcd, Int.ediv_one, Int.ediv_one]
  exact ⟨rfl, rfl⟩
theorem iteNT {c A B : Prop} [Decidable c] (hc : c) (h : B) : if (!decide c) = true then A else B := by
  rw [if_neg (by rw [decide_eq_true hc]; decide)]
  exact h

def spPlTL (K : PySem.W.Frag) : Sp := fun vs H Q E => spPlT K vs H Q E ∨ spPlL K vs H Q E
def spPlM (K : PySem.W.Frag) : Sp := fun vs H Q _ => ∃ (a : Addr) (us : List V) (A : List (List Rat)), vs = [.ref a] ∧ H a = some (.lst us) ∧ SeL H us A ∧ A.length ≤ 10 ∧ (∀ r ∈ A, r.length ≤ 10 ∧ ∀ q ∈ r, ((q.den : Int)).natAbs < 2 ^ 8800) ∧ ∀ H', Same H H' → Q (.bl true) H'
def spPlX (K : PySem.W.Frag) : Sp := fun vs H Q E => spPlL K vs H Q E ∨ spPlM K vs H Q E
section
variable {P : Program} {w : World} {K : PySem.W.Frag} {mg : Str → Option Value} {base : Heap}
theorem sc__law_own : FnScope ["_law_well_here", "_law_many", "_law_kind", "_law_rows", "_law_columns", "_law_i", "_law_k", "_law_one_here", "_law_j", "_law_row", "_law_other"] ["_law_well_here", "_law_many", "_law_kind"] (defScope s__law_own) := ⟨rfl, rfl, rfl, by decide +kernel, rfl, by decide +kernel, by decide +kernel⟩
theorem ok__law_own {f : Addr} {fd : FuncData} (F : Fun K "_law_own" "_law_own" s__law_own f fd) (z : Zs mg) (c__law_draw : Cal P w K mg base 1 "_law_draw" ["_law_well_here", "_law_many"] spDraw) (c__law_dot : Cal P w K mg base 3 "_law_dot" ["_law_one_here", "_law_other"] (spLDot K)) (c__law_place : Cal P w K mg base 2 "_law_place" ["_law_well_here", "_law_kind"] spPlace) : FnOk P w K mg base CX0 4 f fd ["_law_well_here", "_law_many", "_law_kind"] spOwn := by
  refine F.ok sc__law_own (fun vs H Q E h => ?_) (fun cdv A outer s H vs Q E hr h => ?_)
  · obtain ⟨ww, c, kd, n, rfl, _⟩ := h
    rfl
  · obtain ⟨ww, c, kd, n, rfl, hw, hc, nk, k⟩ := h
    refine ⟨_, (pss_cons (ps_set (i := 3) sc__law_own.nd rfl (.inr rfl) (pe_lc (own := [("_law_i", 5)]) (g := gName 5) (tt := tYes) (te := (tLc (iRng1 (tCons (tVar 1) tNil)) (gName 8) tYes (tCall spPlace [] E0 (tCons (tVar 0) (tCons (tVar 2) tNil))) (([("_law_j", 8)] : List (Str × Nat)).map (·.2)))) (by rfl) sc__law_own.nd (pi_range1 (by rfl) z.range (pa_cons (pe_cal c__law_draw hr (pa_cons (pv 0) (pa_cons (pe_op op_add (pv 1) pe_int) pa_nil))) pa_nil)) (blkOk_by (own := [("_law_i", 5)]) (N := ["_law_well_here", "_law_many", "_law_kind", "_law_rows", "_law_columns", "_law_i", "_law_k", "_law_one_here", "_law_j", "_law_row", "_law_other"]) (sc := defScope s__law_own) (by decide +kernel)) (fun _ _ _ _ _ => by exact (pg_name (i := 5) sc__law_own.nd rfl (.inl rfl))) (fun _ _ _ _ _ => by exact pts_nil) (fun _ _ _ _ _ => by exact (@pe_lc _ _ _ _ _ _ _ _ _ _ _ _ (by rfl) sc__law_own.nd (pi_range1 (by rfl) z.range (pa_cons (pv 1) pa_nil)) (blkOk_by (own := [("_law_j", 8)]) (N := ["_law_well_here", "_law_many", "_law_kind", "_law_rows", "_law_columns", "_law_i", "_law_k", "_law_one_here", "_law_j", "_law_row", "_law_other"]) (sc := ({ kind := PySem.ScopeKind.function, names := [(".0", .local), ("_law_i", .local), ("range", .globalImplicit), ("_law_kind", .cell), ("_law_many", .cell), ("_law_well_here", .cell)], isGenerator := false, isCoroutine := false, more := [] })) (by decide +kernel)) (fun _ _ _ _ _ => by exact (pg_name (i := 8) sc__law_own.nd rfl (.inl rfl))) (fun _ _ _ _ _ => by exact pts_nil) (fun _ _ _ _ _ => by exact (pe_cal c__law_place hr (pa_cons (pv 0) (pa_cons (pv 2) pa_nil)))) (by intro _; rfl)))))
      (pss_cons (ps_set (i := 4) sc__law_own.nd rfl (.inr rfl) (pe_lc (own := [("_law_k", 6)]) (g := gName 6) (tt := tYes) (te := (tLc (iList K (tVar 3)) (gName 9) tYes (tOp (rIxL K) (tVar 9) (tVar 6)) (([("_law_row", 9)] : List (Str × Nat)).map (·.2)))) (by rfl) sc__law_own.nd (pi_range1 (by rfl) z.range (pa_cons (pv 1) pa_nil)) (blkOk_by (own := [("_law_k", 6)]) (N := ["_law_well_here", "_law_many", "_law_kind", "_law_rows", "_law_columns", "_law_i", "_law_k", "_law_one_here", "_law_j", "_law_row", "_law_other"]) (sc := defScope s__law_own) (by decide +kernel)) (fun _ _ _ _ _ => by exact (pg_name (i := 6) sc__law_own.nd rfl (.inr rfl))) (fun _ _ _ _ _ => by exact pts_nil) (fun _ _ _ _ _ => by exact (@pe_lc _ _ _ _ _ _ _ _ _ _ _ _ (by rfl) sc__law_own.nd (pi_list (pv 3)) (blkOk_by (own := [("_law_row", 9)]) (N := ["_law_well_here", "_law_many", "_law_kind", "_law_rows", "_law_columns", "_law_i", "_law_k", "_law_one_here", "_law_j", "_law_row", "_law_other"]) (sc := ({ kind := PySem.ScopeKind.function, names := [(".0", .local), ("_law_k", .cell), ("_law_rows", .cell)], isGenerator := false, isCoroutine := false, more := [] })) (by decide +kernel)) (fun _ _ _ _ _ => by exact (pg_name (i := 9) sc__law_own.nd rfl (.inl rfl))) (fun _ _ _ _ _ => by exact pts_nil) (fun _ _ _ _ _ => by exact (pe_ix ix_list (pv 9) (pv 6) (fun _ _ => rfl))) (by intro _; rfl)))))
      (pss_one (ps_ret (pe_lc (own := [("_law_one_here", 7)]) (g := gName 7) (tt := tYes) (te := (tLc (iList K (tVar 4)) (gName 10) tYes (tCall (spLDot K) [] E0 (tCons (tVar 7) (tCons (tVar 10) tNil))) (([("_law_other", 10)] : List (Str × Nat)).map (·.2)))) (by rfl) sc__law_own.nd (pi_list (pv 4)) (blkOk_by (own := [("_law_one_here", 7)]) (N := ["_law_well_here", "_law_many", "_law_kind", "_law_rows", "_law_columns", "_law_i", "_law_k", "_law_one_here", "_law_j", "_law_row", "_law_other"]) (sc := defScope s__law_own) (by decide +kernel)) (fun _ _ _ _ _ => by exact (pg_name (i := 7) sc__law_own.nd rfl (.inr rfl))) (fun _ _ _ _ _ => by exact pts_nil) (fun _ _ _ _ _ => by exact (@pe_lc _ _ _ _ _ _ _ _ _ _ _ _ (by rfl) sc__law_own.nd (pi_list (pv 4)) (blkOk_by (own := [("_law_other", 10)]) (N := ["_law_well_here", "_law_many", "_law_kind", "_law_rows", "_law_columns", "_law_i", "_law_k", "_law_one_here", "_law_j", "_law_row", "_law_other"]) (sc := ({ kind := PySem.ScopeKind.function, names := [(".0", .local), ("_law_one_here", .cell), ("_law_columns", .cell)], isGenerator := false, isCoroutine := false, more := [] })) (by decide +kernel)) (fun _ _ _ _ _ => by exact (pg_name (i := 10) sc__law_own.nd rfl (.inl rfl))) (fun _ _ _ _ _ => by exact pts_nil) (fun _ _ _ _ _ => by exact (pe_cal c__law_dot hr (pa_cons (pv 7) (pa_cons (pv 10) pa_nil)))) (by intro _; rfl)))))))), ?_⟩
    have n10 := nk.1
    refine ⟨_, rfl, _, rfl, _, _, rfl, rfl, ww, c, ((n : Nat) : Int) + 1, rfl, hw, by omega, by omega, by omega, fun r1 X0 r10 r11 d0 f0 w0 => ?_⟩
    obtain ⟨m, rfl⟩ : ∃ m : Nat, r1 = m := ⟨r1.toNat, by omega⟩
    have mn : m ≤ n := by omega
    have nkm : NK kd m := ⟨by omega, fun z => by have := nk.2 z; omega⟩
    refine ⟨m, rfl, by omega, by omega, fun R hR => ?_⟩
    rw [Int.toNat_natCast]
    have nR := w0.ne hR
    have sR := same_new (o := .lst []) hR
    have hR0 : H R = none := but_free d0 hR nR
    refine lc_range (lo := 0) (n := m) (fun i G => SameBut ww H G ∧ WellAt G ww (c + 1 + 20 * (i : Int)) ∧ ∃ us A, G R = some (.lst us) ∧ (∀ v ∈ us, v ≠ .ref R) ∧ SeL G us A ∧ A.length = i ∧ ∀ r ∈ A, r.length = n ∧ ∀ q ∈ r, Pl kd q) ⟨d0.trans (SameBut.of sR), (w0.same sR).mono (by omega), [], [], upd_same, (fun v hv => absurd hv List.not_mem_nil), ⟨rfl, fun i r e => by cases e⟩, rfl, fun r hr => absurd hr List.not_mem_nil⟩ (fun i G hi hP => ?_) (fun G hP => ?_)
    · obtain ⟨b1, w1, us, A, eR, nv, se, lA, pl⟩ := hP
      refine ⟨rfl, _, rfl, n, rfl, by omega, by omega, fun P2 hP2 => ?_⟩
      rw [Int.toNat_natCast]
      have nP2 := w1.ne hP2
      have sP2 := same_new (o := .lst []) hP2
      refine lc_range (lo := 0) (n := n) (fun j Z => SameBut ww G Z ∧ WellAt Z ww (c + 1 + 20 * (i : Int) + 2 * (j : Int)) ∧ ∃ vs qs, Z P2 = some (.lst vs) ∧ FrsAt Z vs qs ∧ qs.length = j ∧ ∀ q ∈ qs, Pl kd q) ⟨SameBut.of sP2, (w1.same sP2).mono (by omega), [], [], upd_same, .nil, rfl, fun q h => absurd h List.not_mem_nil⟩ (fun j Z hj hQ => ?_) (fun Z hQ => ?_)
      · obtain ⟨bZ, wZ, vs, qs, eZ, fZ, lq, sq⟩ := hQ
        have lv := FrsAt.len fZ
        refine ⟨rfl, _, rfl, _, rfl, ww, _, kd, rfl, wZ, by omega, fun p q Y hp dY wY fY ply => ?_⟩
        have eY := dY _ _ nP2 eZ
        have np : p ≠ P2 := fun e => by
          rw [e, eZ] at hp
          cases hp
        refine ⟨_, eY, small1000 (by omega), fun b o nb e => ?_, ?_, vs ++ [.ref p], qs ++ [q], upd_same, ?_, by rw [List.length_append, lq]; rfl, fun x hx => ?_⟩
        · rw [upd_ne (ne_of_none e hP2)]
          exact dY _ _ nb (bZ _ _ nb e)
        · obtain ⟨x, y, zz, e, e1, e2, e3, e4⟩ := wY
          exact ⟨x, y, zz, by rw [upd_ne (Ne.symm nP2)]; exact e, e1, e2, e3, by omega⟩
        · refine FrsAt.app (PrsAt.but (PrsAt.well fZ dY wZ) SameBut.upd eY) (FrsAt.one ?_)
          show (upd Y P2 _) p = _
          rw [upd_ne np]
          exact fY
        · rcases List.mem_append.mp hx with hx | hx
          · exact sq x hx
          · rw [List.mem_singleton.mp hx]
            exact ply
      · obtain ⟨bZ, wZ, vs, qs, eZ, fZ, lq, sq⟩ := hQ
        have eRZ := bZ _ _ nR eR
        have n2 : P2 ≠ R := fun e => by
          rw [e, eR] at hP2
          cases hP2
        have lu := se.1
        refine ⟨us, eRZ, small1000 (by omega), fun b o nb e => ?_, ?_, us ++ [.ref P2], A ++ [qs], upd_same, fun v hv => ?_, ?_, by rw [List.length_append, lA]; rfl, fun r hr => ?_⟩
        · rw [upd_ne (ne_of_none e hR0)]
          exact bZ _ _ nb (b1 _ _ nb e)
        · obtain ⟨x, y, zz, e, e1, e2, e3, e4⟩ := wZ
          exact ⟨x, y, zz, by rw [upd_ne (Ne.symm nR)]; exact e, e1, e2, e3, by omega⟩
        · rcases List.mem_append.mp hv with h | h
          · exact nv v h
          · rw [List.mem_singleton.mp h]
            exact fun z => n2 (V.ref.inj z)
        · have fP : FrL Z P2 qs := ⟨vs, eZ, fZ⟩
          exact SeL.app ((se.well bZ w1).butN eRZ nv SameBut.upd) (SeL.one (fP.but n2 SameBut.upd eRZ))
        · rcases List.mem_append.mp hr with h | h
          · exact pl r h
          · rw [List.mem_singleton.mp h]
            exact ⟨lq, sq⟩
    · obtain ⟨b1, w1, us, A, eR, nv, se, lA, pl⟩ := hP
      refine ⟨_, rfl, n, rfl, by omega, by omega, fun P hP => ?_⟩
      rw [Int.toNat_natCast]
      refine lc_range (lo := 0) (n := n) (fun i X => Same G X ∧ ∃ vs, X P = some (.lst vs) ∧ (∀ v ∈ vs, v ≠ .ref P) ∧ SeL X vs (turnR A i)) ⟨same_new hP, [], upd_same, (fun v hv => absurd hv List.not_mem_nil), rfl, fun i r e => by cases e⟩ (fun i X hi hQ => ?_) (fun X hQ => ?_)
      · obtain ⟨sX, vs, eP, nvP, sv⟩ := hQ
        have eRX := sX _ _ eR
        have lv := sv.1
        unfold turnR at lv
        rw [List.length_map, List.length_range] at lv
        refine ⟨rfl, _, rfl, R, rfl, ⟨_, SqL.of eRX⟩, fun P2 hP2 => lc_list (K := K) (a := R) (xs := us) (fun j Z => Same X Z ∧ FrL Z P2 ((A.take j).map fun r => r.getD i 0)) ⟨same_new hP2, [], upd_same, by rw [List.take_zero]; exact .nil⟩ (fun j Z _ hQ2 => SqL.of (hQ2.1 _ _ eRX)) (fun j x Z hx hQ2 => ?_) (fun Z hQ2 => ?_)⟩
        · obtain ⟨sZ, ws, eZ, fZ⟩ := hQ2
          obtain ⟨b, r, rfl, hr2, fb⟩ := se.get hx
          have li := (List.getElem?_eq_some_iff.mp hr2).1
          obtain ⟨bs, hb, fbs⟩ := fb.same (sX.trans sZ)
          have wr := (pl r (List.mem_of_getElem? hr2)).1
          obtain ⟨p, e1, f1⟩ := FrsAt.at fbs (show r[i]? = some (r.getD i 0) by rw [List.getD_eq_getElem?_getD, List.getElem?_eq_getElem (by omega)]; rfl)
          have lw := FrsAt.len fZ
          rw [List.length_map, List.length_take] at lw
          refine ⟨rfl, _, rfl, _, rfl, b, bs, (i : Nat), .ref p, rfl, by rw [Int.zero_add], SqL.of hb, atI_nat e1, ?_⟩
          refine ⟨_, eZ, small1000 (by omega), fun c o e => ?_, ws ++ [.ref p], upd_same, ?_⟩
          · rw [upd_ne (ne_of_none e hP2)]
            exact sZ _ _ e
          · rw [show A.take (j + 1) = A.take j ++ [r] by rw [List.take_succ, hr2]; rfl, List.map_append]
            refine FrsAt.app (PrsAt.but fZ SameBut.upd eZ) (FrsAt.one ?_)
            show (upd Z P2 _) p = _
            rw [upd_ne (ne_of f1 eZ (fun z => nomatch z))]
            exact f1
        · obtain ⟨sZ, fZ⟩ := hQ2
          rw [List.take_of_length_le (by have := se.1; omega)] at fZ
          have ePZ := sZ _ _ eP
          have n2 : P2 ≠ P := fun e => by
            rw [e, eP] at hP2
            cases hP2
          refine ⟨vs, ePZ, small1000 (by omega), fun c o e => ?_, vs ++ [.ref P2], upd_same, fun v hv => ?_, ?_⟩
          · rw [upd_ne (ne_of_none e hP)]
            exact sZ _ _ (sX _ _ e)
          · rcases List.mem_append.mp hv with h | h
            · exact nvP v h
            · rw [List.mem_singleton.mp h]
              exact fun z => n2 (V.ref.inj z)
          · unfold turnR
            rw [List.range_succ, List.map_append]
            exact SeL.app ((sv.same sZ).butN ePZ nvP SameBut.upd) (SeL.one (fZ.but n2 SameBut.upd ePZ))
      · obtain ⟨sX, vs, eP, nvP, sv⟩ := hQ
        have lC : (turnR A n).length = n := by unfold turnR; rw [List.length_map, List.length_range]
        have plC : ∀ r ∈ turnR A n, r.length = m ∧ ∀ q ∈ r, Pl kd q := fun r hr => by
          unfold turnR at hr
          obtain ⟨t, ht, rfl⟩ := List.mem_map.mp hr
          refine ⟨by rw [List.length_map, lA], fun q hq => ?_⟩
          obtain ⟨r2, h2, rfl⟩ := List.mem_map.mp hq
          obtain ⟨l2, p2⟩ := pl r2 h2
          have lt := List.mem_range.mp ht
          refine p2 _ ?_
          rw [List.getD_eq_getElem?_getD, List.getElem?_eq_getElem (by omega)]
          exact List.getElem_mem _
        have lv := sv.1
        generalize turnR A n = C at *
        refine ⟨_, rfl, P, rfl, ⟨_, SqL.of eP⟩, fun P5 hP5 => lc_list (K := K) (a := P) (xs := vs) (fun i Y => Same X Y ∧ ∃ ws, Y P5 = some (.lst ws) ∧ (∀ v ∈ ws, v ≠ .ref P5) ∧ SeL Y ws ((C.take i).map fun r => C.map fun s => dotR r s)) ⟨same_new hP5, [], upd_same, (fun v hv => absurd hv List.not_mem_nil), rfl, fun i r e => by rw [List.take_zero] at e; cases e⟩ (fun i Y _ hQ => SqL.of (hQ.1 _ _ eP)) (fun i x Y hx hQ => ?_) (fun Y hQ => ?_)⟩
        · obtain ⟨sY, ws, e5, n5, s5⟩ := hQ
          obtain ⟨b, r, rfl, hr2, fb⟩ := sv.get hx
          have li := (List.getElem?_eq_some_iff.mp hr2).1
          have mr := List.mem_of_getElem? hr2
          have ePY := sY _ _ eP
          have l5 := s5.1
          rw [List.length_map, List.length_take] at l5
          refine ⟨rfl, _, rfl, P, rfl, ⟨_, SqL.of ePY⟩, fun P6 hP6 => lc_list (K := K) (a := P) (xs := vs) (fun j Z => Same Y Z ∧ FrL Z P6 ((C.take j).map fun s => dotR r s)) ⟨same_new hP6, [], upd_same, by rw [List.take_zero]; exact .nil⟩ (fun j Z _ hQ2 => SqL.of (hQ2.1 _ _ ePY)) (fun j x Z hx2 hQ2 => ?_) (fun Z hQ2 => ?_)⟩
          · obtain ⟨sZ, us6, e6, f6⟩ := hQ2
            obtain ⟨b2, s2, rfl, hs2, fb2⟩ := sv.get hx2
            have lj := (List.getElem?_eq_some_iff.mp hs2).1
            have ms := List.mem_of_getElem? hs2
            have l6 := FrsAt.len f6
            rw [List.length_map, List.length_take] at l6
            have SZ := sY.trans sZ
            refine ⟨rfl, _, rfl, _, rfl, b, b2, r, s2, 400, 400, rfl, (fb.same SZ).k, (fb2.same SZ).k, dotok_pl nkm (plC r mr).1 (plC s2 ms).1 (plC r mr).2 (plC s2 ms).2, fun p Y2 hp s9 f9 => ?_⟩
            have e9 := s9 _ _ e6
            refine ⟨_, e9, small1000 (by omega), fun c o e => ?_, us6 ++ [.ref p], upd_same, ?_⟩
            · rw [upd_ne (ne_of_none e hP6)]
              exact s9 _ _ (sZ _ _ e)
            · rw [show C.take (j + 1) = C.take j ++ [s2] by rw [List.take_succ, hs2]; rfl, List.map_append]
              refine FrsAt.app (PrsAt.but (PrsAt.same f6 s9) SameBut.upd e9) (FrsAt.one ?_)
              show (upd Y2 P6 _) p = _
              rw [upd_ne (ne_of f9 e9 (fun z => nomatch z))]
              exact f9
          · obtain ⟨sZ, f6⟩ := hQ2
            rw [List.take_of_length_le (by omega)] at f6
            have e5Z := sZ _ _ e5
            have n6 : P6 ≠ P5 := fun e => by
              rw [e, e5] at hP6
              cases hP6
            refine ⟨ws, e5Z, small1000 (by omega), fun c o e => ?_, ws ++ [.ref P6], upd_same, fun v hv => ?_, ?_⟩
            · rw [upd_ne (ne_of_none e hP5)]
              exact sZ _ _ (sY _ _ e)
            · rcases List.mem_append.mp hv with h | h
              · exact n5 v h
              · rw [List.mem_singleton.mp h]
                exact fun z => n6 (V.ref.inj z)
            · rw [show C.take (i + 1) = C.take i ++ [r] by rw [List.take_succ, hr2]; rfl, List.map_append]
              exact SeL.app ((s5.same sZ).butN e5Z n5 SameBut.upd) (SeL.one (f6.but n6 SameBut.upd e5Z))
        · obtain ⟨sY, ws, e5, n5, s5⟩ := hQ
          rw [List.take_of_length_le (by omega)] at s5
          have wX := w1.same sX
          have BX := b1.trans (SameBut.of sX)
          exact k P5 ws C m Y (but_free BX hP5 (wX.ne hP5)) (BX.trans (SameBut.of sY)) ((wX.same sY).mono (by omega)) e5 s5 lC mn plC
theorem sc__law_plain : FnScope ["_law_told", "_law_one_here"] ["_law_told"] (defScope s__law_plain) := ⟨rfl, rfl, rfl, by decide +kernel, rfl, by decide +kernel, by decide +kernel⟩
theorem ok_plainN {f : Addr} {fd : FuncData} {k : Nat} (F : Fun K "_law_plain" "_law_plain" s__law_plain f fd) : FnOk P w K mg base CX0 (k + 1) f fd ["_law_told"] spNo := by
  refine F.ok sc__law_plain (fun vs H Q E h => ?_) (fun cdv A outer s H vs Q E hr h => ?_)
  · exact False.elim h
  · exact False.elim h
theorem ok_plainT {f : Addr} {fd : FuncData} (F : Fun K "_law_plain" "_law_plain" s__law_plain f fd) (z : Zs mg) (c__law_plain : Cal P w K mg base 1 "_law_plain" ["_law_told"] spNo) (c__law_low : Cal P w K mg base 1 "_law_low" ["_law_top", "_law_bottom"] spLowP) : FnOk P w K mg base CX0 2 f fd ["_law_told"] (spPlT K) := by
  refine F.ok sc__law_plain (fun vs H Q E h => ?_) (fun cdv A outer s H vs Q E hr h => ?_)
  · obtain ⟨p, q, rfl, _⟩ := h
    rfl
  · obtain ⟨p, q, rfl, ha, hl, k⟩ := h
    refine ⟨_, (pss_cons (ps_if (pt_val (pe_callB call_isi (by rfl) z.isinstance (by decide +kernel) (pa_cons (pv 0) (pa_cons (pe_bltn (v := .ty "list") (by rfl) z.list (by decide +kernel) rfl) pa_nil)))) (pss_one (ps_ret (pe_callB (cr_all rfl) (by rfl) z.all (by decide +kernel) (pa_cons (pe_lc (own := [("_law_one_here", 1)]) (g := gName 1) (tt := tYes) (te := (tCall spNo [] E0 (tCons (tVar 1) tNil))) (by rfl) sc__law_plain.nd (pi_tup (pv 0)) (blkOk_by (own := [("_law_one_here", 1)]) (N := ["_law_told", "_law_one_here"]) (sc := defScope s__law_plain) (by decide +kernel)) (fun _ _ _ _ _ => by exact (pg_name (i := 1) sc__law_plain.nd rfl (.inl rfl))) (fun _ _ _ _ _ => by exact pts_nil) (fun _ _ _ _ _ => by exact (pe_cal c__law_plain hr (pa_cons (pv 1) pa_nil)))) pa_nil)))) pss_nil)
      (pss_cons (ps_if (PW.pt (pw_or (pt_not (pt_val (pe_callB call_isi (by rfl) z.isinstance (by decide +kernel) (pa_cons (pv 0) (pa_cons (pe_bltn (v := .ty "tuple") (by rfl) z.tuple (by decide +kernel) rfl) pa_nil))))) (pw_or1 (pt_cmpR op_ne (pe_callB call_len_seq (by rfl) z.len PySem.boot_len (pa_cons (pv 0) pa_nil)) pe_int (nomark _))))) (pss_one (ps_ret pe_bl)) pss_nil)
      (pss_cons (ps_if (pt_not (pt_val (pe_callB (cr_all rfl) (by rfl) z.all (by decide +kernel) (pa_cons (pe_lc (own := [("_law_one_here", 1)]) (g := gName 1) (tt := tYes) (te := tAndV (tCB (rIsi K) (tCons (tVar 1) (tCons (tC (.ty "int")) tNil))) (tNotV (tCB (rIsi K) (tCons (tVar 1) (tCons (tC (.ty "bool")) tNil))))) (by rfl) sc__law_plain.nd (pi_tup (pv 0)) (blkOk_by (own := [("_law_one_here", 1)]) (N := ["_law_told", "_law_one_here"]) (sc := defScope s__law_plain) (by decide +kernel)) (fun _ _ _ _ _ => by exact (pg_name (i := 1) sc__law_plain.nd rfl (.inl rfl))) (fun _ _ _ _ _ => by exact pts_nil) (fun _ _ _ _ _ => by exact (pe_and (pe_callB call_isi (by rfl) z.isinstance (by decide +kernel) (pa_cons (pv 1) (pa_cons (pe_bltn (v := .ty "int") (by rfl) z.int (by decide +kernel) rfl) pa_nil))) (pe_one (pe_not (pe_callB call_isi (by rfl) z.isinstance (by decide +kernel) (pa_cons (pv 1) (pa_cons (pe_bltn (v := .ty "bool") (by rfl) z.bool (by decide +kernel) rfl) pa_nil)))))))) pa_nil)))) (pss_one (ps_ret pe_bl)) pss_nil)
      (pss_one (ps_ret (pe_and (pe_cmpR op_gt (pe_ix ix_tup (pv 0) pe_int (fun _ _ => rfl)) pe_int (nomark _)) (pe_one (pe_cmpR (op_eqD hr.units) (pe_cal c__law_low hr (pa_cons (pe_ix ix_tup (pv 0) pe_int (fun _ _ => rfl)) (pa_cons (pe_ix ix_tup (pv 0) pe_int (fun _ _ => rfl)) pa_nil))) (pv 0) (nomark _))))))))), ?_⟩
    refine ⟨_, rfl, _, .ty "list", _, _, false, rfl, .ty _, sqT_ty ha, kit_ty (by decide +kernel), _, rfl, iteF ?_⟩
    refine ⟨_, rfl, _, .ty "tuple", _, _, true, rfl, .ty _, sqT_ty ha, kit_ty (by decide +kernel), _, rfl, iteF ⟨_, rfl, p, _, rfl, .inr (ha), rfl, _, rfl, iteF ?_⟩⟩
    refine ⟨_, rfl, p, rfl, ⟨_, ha⟩, fun D hD => lc_tup (K := K) (a := p) (xs := [.int q.num, .int (q.den : Int)]) (fun i H' => Same H H' ∧ H' D = some (.lst (List.replicate i (V.bl true)))) ⟨same_new hD, upd_same⟩ (fun i H' _ hP => sqT_same ha hP.1) (fun i x H' hx hP => ?_) (fun H' hP => ?_)⟩
    · obtain ⟨s1, hacc⟩ := hP
      obtain ⟨n, rfl⟩ : ∃ n : Int, x = .int n := by
        have := List.mem_of_getElem? hx
        simp only [List.mem_cons, List.not_mem_nil, or_false] at this
        rcases this with rfl | rfl <;> exact ⟨_, rfl⟩
      have hi : i < 2 := (List.getElem?_eq_some_iff.mp hx).1
      refine ⟨rfl, _, rfl, _, .ty "int", _, _, true, rfl, .ty _, .base (.int _), kit_ty (by decide +kernel), _, rfl, iteT ⟨_, rfl, _, .ty "bool", _, _, false, rfl, .ty _, .base (.int _), kit_ty (by decide +kernel), _, rfl, ?_⟩⟩
      refine ⟨_, hacc, ?_, fun b o e => ?_, ?_⟩
      · rw [List.length_replicate]
        exact small1000 (by omega)
      · rw [upd_ne (ne_of_none e hD)]
        exact s1 _ _ e
      · rw [upd_same, List.replicate_succ']
        rfl
    · obtain ⟨s1, hacc⟩ := hP
      refine ⟨D, List.replicate _ true, rfl, SqL.of (by rw [List.map_replicate]; exact hacc), ?_⟩
      rw [rep_all]
      have ha1 := sqT_same ha s1
      refine ⟨_, rfl, iteF ⟨_, rfl, p, _, 1, .int (q.den : Int), rfl, rfl, ha1, a1, _, _, rfl, rfl, _, rfl, ite2 (fun _ => ?_) (fun c => absurd (decide_eq_true (den_ge q)) c)⟩⟩
      refine ⟨_, rfl, p, _, 0, .int q.num, rfl, rfl, ha1, a0, _, rfl, p, _, 1, .int (q.den : Int), rfl, rfl, ha1, a1, q.num, (q.den : Int), rfl, den_ge q, hl, fun p2 hp2 => ?_⟩
      have s2 := same_new (o := .tup [.int (lowT q.num q.den), .int (lowB q.num q.den)]) hp2
      have f2 : Fr (upd H' p2 (.tup [.int (lowT q.num q.den), .int (lowB q.num q.den)])) p2 q := by
        show (upd H' p2 _) p2 = _
        rw [upd_same, (low_self q).1, (low_self q).2]
      refine ⟨_, rfl, frD q, frD q, f2.dp, dpK (sqT_same ha1 s2), frD_shaped _, frD_shaped _, ?_⟩
      rw [frD_eqv, decide_eq_true rfl]
      exact k _ (s1.trans s2)
theorem ok_plainTL {f : Addr} {fd : FuncData} (F : Fun K "_law_plain" "_law_plain" s__law_plain f fd) (z : Zs mg) (c__law_plain : Cal P w K mg base 2 "_law_plain" ["_law_told"] (spPlT K)) (c__law_low : Cal P w K mg base 1 "_law_low" ["_law_top", "_law_bottom"] spLowP) : FnOk P w K mg base CX0 3 f fd ["_law_told"] (spPlTL K) := by
  refine F.ok sc__law_plain (fun vs H Q E h => ?_) (fun cdv A outer s H vs Q E hr h => ?_)
  · rcases h with ⟨p, q, rfl, _⟩ | ⟨a, qs, rfl, _⟩ <;> rfl
  · refine ⟨_, (pss_cons (ps_if (pt_val (pe_callB call_isi (by rfl) z.isinstance (by decide +kernel) (pa_cons (pv 0) (pa_cons (pe_bltn (v := .ty "list") (by rfl) z.list (by decide +kernel) rfl) pa_nil)))) (pss_one (ps_ret (pe_callB (cr_all rfl) (by rfl) z.all (by decide +kernel) (pa_cons (pe_lc (own := [("_law_one_here", 1)]) (g := gName 1) (tt := tYes) (te := (tCall (spPlT K) [] E0 (tCons (tVar 1) tNil))) (by rfl) sc__law_plain.nd (pi_list (pv 0)) (blkOk_by (own := [("_law_one_here", 1)]) (N := ["_law_told", "_law_one_here"]) (sc := defScope s__law_plain) (by decide +kernel)) (fun _ _ _ _ _ => by exact (pg_name (i := 1) sc__law_plain.nd rfl (.inl rfl))) (fun _ _ _ _ _ => by exact pts_nil) (fun _ _ _ _ _ => by exact (pe_cal c__law_plain hr (pa_cons (pv 1) pa_nil)))) pa_nil)))) pss_nil)
      (pss_cons (ps_if (PW.pt (pw_or (pt_not (pt_val (pe_callB call_isi (by rfl) z.isinstance (by decide +kernel) (pa_cons (pv 0) (pa_cons (pe_bltn (v := .ty "tuple") (by rfl) z.tuple (by decide +kernel) rfl) pa_nil))))) (pw_or1 (pt_cmpR op_ne (pe_callB call_len_seq (by rfl) z.len PySem.boot_len (pa_cons (pv 0) pa_nil)) pe_int (nomark _))))) (pss_one (ps_ret pe_bl)) pss_nil)
      (pss_cons (ps_if (pt_not (pt_val (pe_callB (cr_all rfl) (by rfl) z.all (by decide +kernel) (pa_cons (pe_lc (own := [("_law_one_here", 1)]) (g := gName 1) (tt := tYes) (te := tAndV (tCB (rIsi K) (tCons (tVar 1) (tCons (tC (.ty "int")) tNil))) (tNotV (tCB (rIsi K) (tCons (tVar 1) (tCons (tC (.ty "bool")) tNil))))) (by rfl) sc__law_plain.nd (pi_tup (pv 0)) (blkOk_by (own := [("_law_one_here", 1)]) (N := ["_law_told", "_law_one_here"]) (sc := defScope s__law_plain) (by decide +kernel)) (fun _ _ _ _ _ => by exact (pg_name (i := 1) sc__law_plain.nd rfl (.inl rfl))) (fun _ _ _ _ _ => by exact pts_nil) (fun _ _ _ _ _ => by exact (pe_and (pe_callB call_isi (by rfl) z.isinstance (by decide +kernel) (pa_cons (pv 1) (pa_cons (pe_bltn (v := .ty "int") (by rfl) z.int (by decide +kernel) rfl) pa_nil))) (pe_one (pe_not (pe_callB call_isi (by rfl) z.isinstance (by decide +kernel) (pa_cons (pv 1) (pa_cons (pe_bltn (v := .ty "bool") (by rfl) z.bool (by decide +kernel) rfl) pa_nil)))))))) pa_nil)))) (pss_one (ps_ret pe_bl)) pss_nil)
      (pss_one (ps_ret (pe_and (pe_cmpR op_gt (pe_ix ix_tup (pv 0) pe_int (fun _ _ => rfl)) pe_int (nomark _)) (pe_one (pe_cmpR (op_eqD hr.units) (pe_cal c__law_low hr (pa_cons (pe_ix ix_tup (pv 0) pe_int (fun _ _ => rfl)) (pa_cons (pe_ix ix_tup (pv 0) pe_int (fun _ _ => rfl)) pa_nil))) (pv 0) (nomark _))))))))), ?_⟩
    rcases h with ⟨p, q, rfl, ha, hl, k⟩ | ⟨a, qs, rfl, ⟨vs, ha, hq⟩, hl, hd, k⟩
    · skip
      refine ⟨_, rfl, _, .ty "list", _, _, false, rfl, .ty _, sqT_ty ha, kit_ty (by decide +kernel), _, rfl, iteF ?_⟩
      refine ⟨_, rfl, _, .ty "tuple", _, _, true, rfl, .ty _, sqT_ty ha, kit_ty (by decide +kernel), _, rfl, iteF ⟨_, rfl, p, _, rfl, .inr (ha), rfl, _, rfl, iteF ?_⟩⟩
      refine ⟨_, rfl, p, rfl, ⟨_, ha⟩, fun D hD => lc_tup (K := K) (a := p) (xs := [.int q.num, .int (q.den : Int)]) (fun i H' => Same H H' ∧ H' D = some (.lst (List.replicate i (V.bl true)))) ⟨same_new hD, upd_same⟩ (fun i H' _ hP => sqT_same ha hP.1) (fun i x H' hx hP => ?_) (fun H' hP => ?_)⟩
      · obtain ⟨s1, hacc⟩ := hP
        obtain ⟨n, rfl⟩ : ∃ n : Int, x = .int n := by
          have := List.mem_of_getElem? hx
          simp only [List.mem_cons, List.not_mem_nil, or_false] at this
          rcases this with rfl | rfl <;> exact ⟨_, rfl⟩
        have hi : i < 2 := (List.getElem?_eq_some_iff.mp hx).1
        refine ⟨rfl, _, rfl, _, .ty "int", _, _, true, rfl, .ty _, .base (.int _), kit_ty (by decide +kernel), _, rfl, iteT ⟨_, rfl, _, .ty "bool", _, _, false, rfl, .ty _, .base (.int _), kit_ty (by decide +kernel), _, rfl, ?_⟩⟩
        refine ⟨_, hacc, ?_, fun b o e => ?_, ?_⟩
        · rw [List.length_replicate]
          exact small1000 (by omega)
        · rw [upd_ne (ne_of_none e hD)]
          exact s1 _ _ e
        · rw [upd_same, List.replicate_succ']
          rfl
      · obtain ⟨s1, hacc⟩ := hP
        refine ⟨D, List.replicate _ true, rfl, SqL.of (by rw [List.map_replicate]; exact hacc), ?_⟩
        rw [rep_all]
        have ha1 := sqT_same ha s1
        refine ⟨_, rfl, iteF ⟨_, rfl, p, _, 1, .int (q.den : Int), rfl, rfl, ha1, a1, _, _, rfl, rfl, _, rfl, ite2 (fun _ => ?_) (fun c => absurd (decide_eq_true (den_ge q)) c)⟩⟩
        refine ⟨_, rfl, p, _, 0, .int q.num, rfl, rfl, ha1, a0, _, rfl, p, _, 1, .int (q.den : Int), rfl, rfl, ha1, a1, q.num, (q.den : Int), rfl, den_ge q, hl, fun p2 hp2 => ?_⟩
        have s2 := same_new (o := .tup [.int (lowT q.num q.den), .int (lowB q.num q.den)]) hp2
        have f2 : Fr (upd H' p2 (.tup [.int (lowT q.num q.den), .int (lowB q.num q.den)])) p2 q := by
          show (upd H' p2 _) p2 = _
          rw [upd_same, (low_self q).1, (low_self q).2]
        refine ⟨_, rfl, frD q, frD q, f2.dp, dpK (sqT_same ha1 s2), frD_shaped _, frD_shaped _, ?_⟩
        rw [frD_eqv, decide_eq_true rfl]
        exact k _ (s1.trans s2)
    · skip
      have hlen := hq.1
      refine ⟨_, rfl, _, .ty "list", _, _, true, rfl, .ty _, .base (.lst ha), kit_ty (by decide +kernel), _, rfl, iteT ⟨_, rfl, a, rfl, ⟨_, SqL.of ha⟩, fun D hD => lc_list (K := K) (a := a) (xs := vs) (fun i H' => Same H H' ∧ H' D = some (.lst (List.replicate i (V.bl true)))) ⟨same_new hD, upd_same⟩ (fun i H' _ hP => SqL.of (hP.1 _ _ ha)) (fun i x H' hx hP => ?_) (fun H' hP => ?_)⟩⟩
      · obtain ⟨s1, hacc⟩ := hP
        obtain ⟨p, r, rfl, hr', hp⟩ := hq.get hx
        have hi := (List.getElem?_eq_some_iff.mp hx).1
        refine ⟨rfl, _, rfl, p, r, rfl, sqT_same hp s1, hd r (List.mem_of_getElem? hr'), fun H2 s2 => ?_⟩
        refine ⟨_, s2 _ _ hacc, ?_, fun b o e => ?_, ?_⟩
        · rw [List.length_replicate]
          exact small1000 (by omega)
        · rw [upd_ne (ne_of_none e hD)]
          exact s2 _ _ (s1 _ _ e)
        · rw [upd_same, List.replicate_succ']
      · obtain ⟨s1, hacc⟩ := hP
        refine ⟨D, List.replicate _ true, rfl, SqL.of (by rw [List.map_replicate]; exact hacc), ?_⟩
        rw [rep_all]
        exact k _ s1

theorem ok_plainX {f : Addr} {fd : FuncData} (F : Fun K "_law_plain" "_law_plain" s__law_plain f fd) (z : Zs mg) (c__law_plain : Cal P w K mg base 3 "_law_plain" ["_law_told"] (spPlTL K)) (c__law_low : Cal P w K mg base 1 "_law_low" ["_law_top", "_law_bottom"] spLowP) : FnOk P w K mg base CX0 4 f fd ["_law_told"] (spPlX K) := by
  refine F.ok sc__law_plain (fun vs H Q E h => ?_) (fun cdv A outer s H vs Q E hr h => ?_)
  · rcases h with ⟨a, qs, rfl, _⟩ | ⟨a, us, A, rfl, _⟩ <;> rfl
  · refine ⟨_, (pss_cons (ps_if (pt_val (pe_callB call_isi (by rfl) z.isinstance (by decide +kernel) (pa_cons (pv 0) (pa_cons (pe_bltn (v := .ty "list") (by rfl) z.list (by decide +kernel) rfl) pa_nil)))) (pss_one (ps_ret (pe_callB (cr_all rfl) (by rfl) z.all (by decide +kernel) (pa_cons (pe_lc (own := [("_law_one_here", 1)]) (g := gName 1) (tt := tYes) (te := (tCall (spPlTL K) [] E0 (tCons (tVar 1) tNil))) (by rfl) sc__law_plain.nd (pi_list (pv 0)) (blkOk_by (own := [("_law_one_here", 1)]) (N := ["_law_told", "_law_one_here"]) (sc := defScope s__law_plain) (by decide +kernel)) (fun _ _ _ _ _ => by exact (pg_name (i := 1) sc__law_plain.nd rfl (.inl rfl))) (fun _ _ _ _ _ => by exact pts_nil) (fun _ _ _ _ _ => by exact (pe_cal c__law_plain hr (pa_cons (pv 1) pa_nil)))) pa_nil)))) pss_nil)
      (pss_cons (ps_if (PW.pt (pw_or (pt_not (pt_val (pe_callB call_isi (by rfl) z.isinstance (by decide +kernel) (pa_cons (pv 0) (pa_cons (pe_bltn (v := .ty "tuple") (by rfl) z.tuple (by decide +kernel) rfl) pa_nil))))) (pw_or1 (pt_cmpR op_ne (pe_callB call_len_seq (by rfl) z.len PySem.boot_len (pa_cons (pv 0) pa_nil)) pe_int (nomark _))))) (pss_one (ps_ret pe_bl)) pss_nil)
      (pss_cons (ps_if (pt_not (pt_val (pe_callB (cr_all rfl) (by rfl) z.all (by decide +kernel) (pa_cons (pe_lc (own := [("_law_one_here", 1)]) (g := gName 1) (tt := tYes) (te := tAndV (tCB (rIsi K) (tCons (tVar 1) (tCons (tC (.ty "int")) tNil))) (tNotV (tCB (rIsi K) (tCons (tVar 1) (tCons (tC (.ty "bool")) tNil))))) (by rfl) sc__law_plain.nd (pi_list (pv 0)) (blkOk_by (own := [("_law_one_here", 1)]) (N := ["_law_told", "_law_one_here"]) (sc := defScope s__law_plain) (by decide +kernel)) (fun _ _ _ _ _ => by exact (pg_name (i := 1) sc__law_plain.nd rfl (.inl rfl))) (fun _ _ _ _ _ => by exact pts_nil) (fun _ _ _ _ _ => by exact (pe_and (pe_callB call_isi (by rfl) z.isinstance (by decide +kernel) (pa_cons (pv 1) (pa_cons (pe_bltn (v := .ty "int") (by rfl) z.int (by decide +kernel) rfl) pa_nil))) (pe_one (pe_not (pe_callB call_isi (by rfl) z.isinstance (by decide +kernel) (pa_cons (pv 1) (pa_cons (pe_bltn (v := .ty "bool") (by rfl) z.bool (by decide +kernel) rfl) pa_nil)))))))) pa_nil)))) (pss_one (ps_ret pe_bl)) pss_nil)
      (pss_one (ps_ret (pe_and (pe_cmpR op_gt (pe_ix ix_tup (pv 0) pe_int (fun _ _ => rfl)) pe_int (nomark _)) (pe_one (pe_cmpR (op_eqD hr.units) (pe_cal c__law_low hr (pa_cons (pe_ix ix_tup (pv 0) pe_int (fun _ _ => rfl)) (pa_cons (pe_ix ix_tup (pv 0) pe_int (fun _ _ => rfl)) pa_nil))) (pv 0) (nomark _))))))))), ?_⟩
    rcases h with ⟨a, qs, rfl, ⟨vs, ha, hq⟩, hl, hd, k⟩ | ⟨a, vs, A, rfl, ha, hs, l10, hd, k⟩
    · skip
      have hlen := hq.1
      refine ⟨_, rfl, _, .ty "list", _, _, true, rfl, .ty _, .base (.lst ha), kit_ty (by decide +kernel), _, rfl, iteT ⟨_, rfl, a, rfl, ⟨_, SqL.of ha⟩, fun D hD => lc_list (K := K) (a := a) (xs := vs) (fun i H' => Same H H' ∧ H' D = some (.lst (List.replicate i (V.bl true)))) ⟨same_new hD, upd_same⟩ (fun i H' _ hP => SqL.of (hP.1 _ _ ha)) (fun i x H' hx hP => ?_) (fun H' hP => ?_)⟩⟩
      · obtain ⟨s1, hacc⟩ := hP
        obtain ⟨p, r, rfl, hr', hp⟩ := hq.get hx
        have hi := (List.getElem?_eq_some_iff.mp hx).1
        refine ⟨rfl, _, rfl, .inl ⟨p, r, rfl, sqT_same hp s1, hd r (List.mem_of_getElem? hr'), fun H2 s2 => ?_⟩⟩
        refine ⟨_, s2 _ _ hacc, ?_, fun b o e => ?_, ?_⟩
        · rw [List.length_replicate]
          exact small1000 (by omega)
        · rw [upd_ne (ne_of_none e hD)]
          exact s2 _ _ (s1 _ _ e)
        · rw [upd_same, List.replicate_succ']
      · obtain ⟨s1, hacc⟩ := hP
        refine ⟨D, List.replicate _ true, rfl, SqL.of (by rw [List.map_replicate]; exact hacc), ?_⟩
        rw [rep_all]
        exact k _ s1
    · skip
      have hlen := hs.1
      refine ⟨_, rfl, _, .ty "list", _, _, true, rfl, .ty _, .base (.lst ha), kit_ty (by decide +kernel), _, rfl, iteT ⟨_, rfl, a, rfl, ⟨_, SqL.of ha⟩, fun D hD => lc_list (K := K) (a := a) (xs := vs) (fun i H' => Same H H' ∧ H' D = some (.lst (List.replicate i (V.bl true)))) ⟨same_new hD, upd_same⟩ (fun i H' _ hP => SqL.of (hP.1 _ _ ha)) (fun i x H' hx hP => ?_) (fun H' hP => ?_)⟩⟩
      · obtain ⟨s1, hacc⟩ := hP
        obtain ⟨b, r, rfl, hr2, fb⟩ := hs.get hx
        have hi := (List.getElem?_eq_some_iff.mp hx).1
        obtain ⟨r1, r2⟩ := hd r (List.mem_of_getElem? hr2)
        refine ⟨rfl, _, rfl, .inr ⟨b, r, rfl, (fb.same s1).k, by omega, r2, fun H2 s2 => ?_⟩⟩
        refine ⟨_, s2 _ _ hacc, ?_, fun b o e => ?_, ?_⟩
        · rw [List.length_replicate]
          exact small1000 (by omega)
        · rw [upd_ne (ne_of_none e hD)]
          exact s2 _ _ (s1 _ _ e)
        · rw [upd_same, List.replicate_succ']
      · obtain ⟨s1, hacc⟩ := hP
        refine ⟨D, List.replicate _ true, rfl, SqL.of (by rw [List.map_replicate]; exact hacc), ?_⟩
        rw [rep_all]
        exact k _ s1
theorem sc__law_beside : FnScope ["_law_matrix", "_law_many", "_law_row"] ["_law_matrix"] (defScope s__law_beside) := ⟨rfl, rfl, rfl, by decide +kernel, rfl, by decide +kernel, by decide +kernel⟩
theorem ok__law_beside {f : Addr} {fd : FuncData} {k : Nat} (F : Fun K "_law_beside" "_law_beside" s__law_beside f fd) (z : Zs mg) : FnOk P w K mg base CX0 (k + 1) f fd ["_law_matrix"] spBeside := by
  refine F.ok sc__law_beside (fun vs H Q E h => ?_) (fun cdv A outer s H vs Q E hr h => ?_)
  · obtain ⟨a, ws, A, rfl, _⟩ := h
    rfl
  · obtain ⟨a, ws, A, rfl, ha, hs, n10, wid, k⟩ := h
    refine ⟨_, (pss_cons (ps_set (i := 1) sc__law_beside.nd rfl (.inl rfl) (pe_callB call_len_seq (by rfl) z.len PySem.boot_len (pa_cons (pv 0) pa_nil)))
      (pss_one (ps_ret (pe_op op_cat (pe_lc (own := [("_law_row", 2)]) (g := gName 2) (tt := tYes) (te := (tOp rCat (tVar 2) (tLst (tCons (tTup (tCons (tC (.int 0)) (tCons (tC (.int 1)) tNil))) tNil)))) (by rfl) sc__law_beside.nd (pi_list (pv 0)) (blkOk_by (own := [("_law_row", 2)]) (N := ["_law_matrix", "_law_many", "_law_row"]) (sc := defScope s__law_beside) (by decide +kernel)) (fun _ _ _ _ _ => by exact (pg_name (i := 2) sc__law_beside.nd rfl (.inl rfl))) (fun _ _ _ _ _ => by exact pts_nil) (fun _ _ _ _ _ => by exact (pe_op op_cat (pv 2) (pe_lst (pa_cons (pe_tup (pa_cons pe_int (pa_cons pe_int pa_nil))) pa_nil))))) (pe_lst (pa_cons (pe_op op_cat (pe_op op_rep (pe_lst (pa_cons (pe_tup (pa_cons pe_int (pa_cons pe_int pa_nil))) pa_nil)) (pv 1)) (pe_lst (pa_cons (pe_tup (pa_cons pe_int (pa_cons pe_int pa_nil))) pa_nil))) pa_nil)))))), ?_⟩
    have lw := hs.1
    refine ⟨_, rfl, a, _, rfl, .inl (SqL.of ha), ?_⟩
    refine ⟨_, rfl, a, rfl, ⟨_, SqL.of ha⟩, fun R hR => lc_list (K := K) (a := a) (xs := ws) (fun i G => Same H G ∧ ∃ us, G R = some (.lst us) ∧ (∀ v ∈ us, v ≠ .ref R) ∧ SeL G us ((A.take i).map fun r => r ++ [0])) ⟨same_new hR, [], upd_same, (fun v hv => absurd hv List.not_mem_nil), rfl, fun i r e => by rw [List.take_zero] at e; cases e⟩ (fun i G _ hP => SqL.of (hP.1 _ _ ha)) (fun i x G hx hP => ?_) (fun G hP => ?_)⟩
    · obtain ⟨sG, us, eR, nv, se⟩ := hP
      obtain ⟨b, r, rfl, hr2, fb⟩ := hs.get hx
      have li := (List.getElem?_eq_some_iff.mp hr2).1
      have wr := wid r (List.mem_of_getElem? hr2)
      obtain ⟨vs, hb, lb, fvs⟩ := (fb.same sG).len
      have lv := se.1
      rw [List.length_map, List.length_take] at lv
      refine ⟨rfl, _, rfl, (by show 2 ≤ sizeLine; decide), fun t0 ht0 => ⟨(by show 1 ≤ sizeLine; decide), fun l1 hl1 => ?_⟩⟩
      have s0 := same_new (o := .tup [.int 0, .int 1]) ht0
      have s1 := same_new (o := .lst [.ref t0]) hl1
      refine ⟨b, l1, vs, _, rfl, rfl, s1 _ _ (s0 _ _ hb), upd_same, Nat.le_of_lt (small1000 (by show vs.length + 1 ≤ 1000; omega)), fun l2 hl2 => ?_⟩
      have s2 := same_new (o := .lst (vs ++ [.ref t0])) hl2
      have S2 := s0.trans (s1.trans s2)
      have f0 : Fr _ t0 0 := nul_fr (s2 _ _ (s1 _ _ upd_same))
      have fr2 : FrL _ l2 (r ++ [0]) := ⟨_, upd_same, FrsAt.app (PrsAt.same fvs S2) (FrsAt.one f0)⟩
      have eR2 := S2 _ _ eR
      have nl : l2 ≠ R := fun e => by
        rw [e, s1 _ _ (s0 _ _ eR)] at hl2
        cases hl2
      refine ⟨us, eR2, small1000 (by omega), fun c o e => ?_, us ++ [.ref l2], upd_same, fun v hv => ?_, ?_⟩
      · rw [upd_ne (ne_of_none e hR)]
        exact S2 _ _ (sG _ _ e)
      · rcases List.mem_append.mp hv with h | h
        · exact nv v h
        · rw [List.mem_singleton.mp h]
          exact fun z => nl (V.ref.inj z)
      · rw [show A.take (i + 1) = A.take i ++ [r] by rw [List.take_succ, hr2]; rfl, List.map_append]
        exact SeL.app ((se.same S2).butN eR2 nv SameBut.upd) (SeL.one (fr2.but nl SameBut.upd eR2))
    · obtain ⟨sG, us, eR, nv, se⟩ := hP
      rw [List.take_of_length_le (by omega)] at se
      have lv := se.1
      rw [List.length_map] at lv
      rw [lw]
      generalize hn : A.length = n at *
      refine ⟨(by show 2 ≤ sizeLine; decide), fun t0 ht0 => ⟨(by show 1 ≤ sizeLine; decide), fun l3 hl3 => ?_⟩⟩
      have s0 := same_new (o := .tup [.int 0, .int 1]) ht0
      have s3 := same_new (o := .lst [.ref t0]) hl3
      refine ⟨_, rfl, l3, (n : Nat), [.ref t0], rfl, rfl, upd_same, by omega, by omega, Nat.le_trans (show 1 * ((n : Nat) : Int).toNat ≤ 1000 by omega) (by decide), fun l4 hl4 => ?_⟩
      rw [rep_flat, Int.toNat_natCast] at *
      have s4 := same_new (o := .lst (List.replicate n (V.ref t0))) hl4
      refine ⟨(by show 2 ≤ sizeLine; decide), fun t1 ht1 => ⟨(by show 1 ≤ sizeLine; decide), fun l5 hl5 => ?_⟩⟩
      have s5 := same_new (o := .tup [.int 1, .int 1]) ht1
      have s6 := same_new (o := .lst [.ref t1]) hl5
      refine ⟨l4, l5, _, _, rfl, rfl, s6 _ _ (s5 _ _ upd_same), upd_same, Nat.le_of_lt (small1000 (by rw [List.length_replicate]; show n + 1 ≤ 1000; omega)), fun l6 hl6 => ?_⟩
      have s7 := same_new (o := .lst (List.replicate n (V.ref t0) ++ [.ref t1])) hl6
      refine ⟨(by show 1 ≤ sizeLine; decide), fun l7 hl7 => ?_⟩
      have s8 := same_new (o := .lst [.ref l6]) hl7
      have S8 := s0.trans (s3.trans (s4.trans (s5.trans (s6.trans (s7.trans s8)))))
      refine ⟨R, l7, us, _, rfl, rfl, S8 _ _ eR, upd_same, Nat.le_of_lt (small1000 (by show us.length + 1 ≤ 1000; omega)), fun l8 hl8 => ?_⟩
      have s9 := same_new (o := .lst (us ++ [.ref l6])) hl8
      have S9 := S8.trans s9
      have f0 : Fr _ t0 0 := nul_fr (s9 _ _ (s8 _ _ (s7 _ _ (s6 _ _ (s5 _ _ (s4 _ _ (s3 _ _ upd_same)))))))
      have f1 : Fr _ t1 1 := one_fr (s9 _ _ (s8 _ _ (s7 _ _ (s6 _ _ upd_same))))
      have f6 : FrL _ l6 (List.replicate n 0 ++ [1]) := ⟨_, s9 _ _ (s8 _ _ upd_same), FrsAt.app (FrsAt.rep f0 n) (FrsAt.one f1)⟩
      refine k l8 _ _ (sG.free (S8.free hl8)) (sG.trans S9) upd_same ?_
      unfold besR
      rw [hn]
      exact SeL.app (se.same S9) (SeL.one f6)
end
end E1

namespace E1
open PySem PySem.Spec PyProof.Rows L2

/-- what comes of the rows -/
def comeL (A : List (List Rat)) (xs : List Rat) : List Rat := A.map fun r => dotR r xs
structure RN (A : List (List Rat)) (xs : List Rat) : Prop where
  len : xs.length = A.length
  in1 : ∀ r ∈ A, ∃ p1 p2, DotOk r xs p1 p2
  in2 : ∃ p1 p2, DotOk xs (comeL A xs) p1 p2
  ne : xs ≠ List.replicate A.length 0
  le : dotR xs (comeL A xs) ≤ 0
  den : ∀ q ∈ xs, ((q.den : Int)).natAbs < 2 ^ 8800
structure RA (A L : List (List Rat)) (ds : List Rat) : Prop where
  len : L.length = A.length
  dl : ds.length = A.length
  wid : ∀ r ∈ L, r.length = A.length
  tri : ∀ (k : Nat) (r : List Rat), L[k]? = some r → r.drop k = 1 :: List.replicate (A.length - 1 - k) 0
  pos : ∀ q ∈ ds, 0 < q
  ok : ∃ p1 p2, OfOk L ds p1 p2
  eq : ofR L ds = A
  den1 : ∀ r ∈ L, ∀ q ∈ r, ((q.den : Int)).natAbs < 2 ^ 8800
  den2 : ∀ q ∈ ds, ((q.den : Int)).natAbs < 2 ^ 8800
def nD (xs : List Rat) : PyData := .tuple [.str "not", .list (xs.map frD)]
def aD (L : List (List Rat)) (ds : List Rat) : PyData := .tuple [.str "above", .list (llD L), .list (ds.map frD)]
theorem nD_shaped (xs : List Rat) : SeqAt.shaped (nD xs) = true := by
  have h2 := frDs_deep xs
  unfold nD
  have h3 : PyData.depth (.tuple [.str "not", .list (xs.map frD)]) ≤ 64 := by simp only [PyData.depth, PyData.depthAll]; omega
  show (PyData.canLay0 _ && decide (PyData.depth _ ≤ 64)) = true
  rw [Bool.and_eq_true]
  exact ⟨by simp only [PyData.canLay0, PyData.canLayAll0, Bool.and_true]; rw [frDs_lay]; decide +kernel, decide_eq_true h3⟩
theorem aD_shaped (L : List (List Rat)) (ds : List Rat) : SeqAt.shaped (aD L ds) = true := by
  have h1 := ll_deep L
  have h2 := frDs_deep ds
  unfold aD
  have h3 : PyData.depth (.tuple [.str "above", .list (llD L), .list (ds.map frD)]) ≤ 64 := by simp only [PyData.depth, PyData.depthAll]; omega
  show (PyData.canLay0 _ && decide (PyData.depth _ ≤ 64)) = true
  rw [Bool.and_eq_true]
  exact ⟨by simp only [PyData.canLay0, PyData.canLayAll0, Bool.and_true]; rw [ll_lay, frDs_lay]; decide +kernel, decide_eq_true h3⟩
theorem num_low {q : Rat} (h : q ≤ 0) : q.num ≤ 0 := by
  have e := q_eq q
  have d : (0 : Rat) ≤ ((q.den : Int) : Rat) := Rat.intCast_le_intCast.mpr (show (0 : Int) ≤ q.den by omega)
  have n := Rat.mul_nonneg (show (0 : Rat) ≤ -q by grind) d
  have z : ((q.num : Int) : Rat) ≤ ((0 : Int) : Rat) := by
    show ((q.num : Int) : Rat) ≤ 0
    rw [← e]
    grind
  exact Rat.intCast_le_intCast.mp z
theorem num_up {q : Rat} (h : 0 < q) : 0 < q.num := by
  have e := q_eq q
  have d : (0 : Rat) < ((q.den : Int) : Rat) := Rat.intCast_lt_intCast.mpr (show (0 : Int) < q.den by exact den_ge q)
  have n := Rat.mul_pos h d
  rw [e] at n
  exact Rat.intCast_lt_intCast.mp (show ((0 : Int) : Rat) < (q.num : Rat) from n)
theorem nil_shaped : SeqAt.shaped (.tuple []) = true := by decide +kernel
def spRight (K : PySem.W.Frag) : Sp := fun vs H Q _ => ∃ (a t : Addr) (ws : List V) (A : List (List Rat)), vs = [.ref a, .ref t] ∧ H a = some (.lst ws) ∧ SeL H ws A ∧ A.length ≤ 10 ∧
  ((∃ (q : Addr) (xs : List Rat), H t = some (.tup [.str "not", .ref q]) ∧ FrLK K H q xs ∧ RN A xs) ∨
   (∃ (l d : Addr) (us : List V) (L : List (List Rat)) (ds : List Rat), H t = some (.tup [.str "above", .ref l, .ref d]) ∧ H l = some (.lst us) ∧ SeL H us L ∧ FrL H d ds ∧ RA A L ds)) ∧
  ∀ H', Same H H' → Q (.bl true) H'
section
variable {P : Program} {w : World} {K : PySem.W.Frag} {mg : Str → Option Value} {base : Heap}
theorem sc__law_right : FnScope ["_law_matrix", "_law_told", "_law_many", "_law_row", "_law_k", "_law_one_here"] ["_law_matrix", "_law_told"] (defScope s__law_right) := ⟨rfl, rfl, rfl, by decide +kernel, rfl, by decide +kernel, by decide +kernel⟩
theorem ok__law_right {f : Addr} {fd : FuncData} (F : Fun K "_law_right" "_law_right" s__law_right f fd) (z : Zs mg) (c__law_plain : Cal P w K mg base 4 "_law_plain" ["_law_told"] (spPlX K)) (c__law_dot : Cal P w K mg base 3 "_law_dot" ["_law_one_here", "_law_other"] (spLDot K)) (c__law_of : Cal P w K mg base 4 "_law_of" ["_law_lower_here", "_law_pivots_here"] (spOf K)) : FnOk P w K mg base CX0 5 f fd ["_law_matrix", "_law_told"] (spRight K) := by
  refine F.ok sc__law_right (fun vs H Q E h => ?_) (fun cdv A outer s H vs Q E hr h => ?_)
  · obtain ⟨a, t, ws, A, rfl, _⟩ := h
    rfl
  · obtain ⟨a, t, ws, A, rfl, ha, hs, n10, hor, k⟩ := h
    refine ⟨_, (pss_cons (ps_set (i := 2) sc__law_right.nd rfl (.inl rfl) (pe_callB call_len_seq (by rfl) z.len PySem.boot_len (pa_cons (pv 0) pa_nil)))
      (pss_cons (ps_if (PW.pt (pw_or (pt_not (pt_val (pe_callB call_isi (by rfl) z.isinstance (by decide +kernel) (pa_cons (pv 1) (pa_cons (pe_bltn (v := .ty "tuple") (by rfl) z.tuple (by decide +kernel) rfl) pa_nil))))) (pw_or (pt_cmpR (op_eqD hr.units) (pv 1) (pe_tup pa_nil) (nomark _)) (pw_or1 (pt_not (pt_val (pe_callB (cr_all rfl) (by rfl) z.all (by decide +kernel) (pa_cons (pe_lc (own := [("_law_one_here", 5)]) (g := gName 5) (tt := tYes) (te := (tCall (spPlX K) [] E0 (tCons (tVar 5) tNil))) (by rfl) sc__law_right.nd (pi_tup (pe_slice sl_tup (pv 1) (po_some pe_int) po_none)) (blkOk_by (own := [("_law_one_here", 5)]) (N := ["_law_matrix", "_law_told", "_law_many", "_law_row", "_law_k", "_law_one_here"]) (sc := defScope s__law_right) (by decide +kernel)) (fun _ _ _ _ _ => by exact (pg_name (i := 5) sc__law_right.nd rfl (.inl rfl))) (fun _ _ _ _ _ => by exact pts_nil) (fun _ _ _ _ _ => by exact (pe_cal c__law_plain hr (pa_cons (pv 5) pa_nil)))) pa_nil)))))))) (pss_one (ps_ret pe_bl)) pss_nil)
      (pss_cons (ps_if (PW.pt (pw_and (pt_cmpR op_eq (pe_ix ix_tup (pv 1) pe_int (fun _ _ => rfl)) pe_str (nomark _)) (pw_and1 (pt_cmpR op_eq (pe_callB call_len_seq (by rfl) z.len PySem.boot_len (pa_cons (pv 1) pa_nil)) pe_int (nomark _))))) (pss_cons (ps_if (PW.pt (pw_or (pt_not (pt_val (pe_callB call_isi (by rfl) z.isinstance (by decide +kernel) (pa_cons (pe_ix ix_tup (pv 1) pe_int (fun _ _ => rfl)) (pa_cons (pe_bltn (v := .ty "list") (by rfl) z.list (by decide +kernel) rfl) pa_nil))))) (pw_or (pt_cmpR op_ne (pe_callB call_len_seq (by rfl) z.len PySem.boot_len (pa_cons (pe_ix ix_tup (pv 1) pe_int (fun _ _ => rfl)) pa_nil)) (pv 2) (nomark _)) (pw_or1 (pt_cmpR (op_eqD hr.units) (pe_ix ix_tup (pv 1) pe_int (fun _ _ => rfl)) (pe_op op_rep (pe_lst (pa_cons (pe_tup (pa_cons pe_int (pa_cons pe_int pa_nil))) pa_nil)) (pv 2)) (nomark _)))))) (pss_one (ps_ret pe_bl)) pss_nil)
      (pss_one (ps_ret (pe_cmpR op_le (pe_ix ix_tup (pe_cal c__law_dot hr (pa_cons (pe_ix ix_tup (pv 1) pe_int (fun _ _ => rfl)) (pa_cons (pe_lc (own := [("_law_row", 3)]) (g := gName 3) (tt := tYes) (te := (tCall (spLDot K) [] E0 (tCons (tVar 3) (tCons (tOp (rIxT K) (tVar 1) (tC (.int 1))) tNil)))) (by rfl) sc__law_right.nd (pi_list (pv 0)) (blkOk_by (own := [("_law_row", 3)]) (N := ["_law_matrix", "_law_told", "_law_many", "_law_row", "_law_k", "_law_one_here"]) (sc := defScope s__law_right) (by decide +kernel)) (fun _ _ _ _ _ => by exact (pg_name (i := 3) sc__law_right.nd rfl (.inl rfl))) (fun _ _ _ _ _ => by exact pts_nil) (fun _ _ _ _ _ => by exact (pe_cal c__law_dot hr (pa_cons (pv 3) (pa_cons (pe_ix ix_tup (pv 1) pe_int (fun _ _ => rfl)) pa_nil))))) pa_nil))) pe_int (fun _ _ => rfl)) pe_int (nomark _))))) pss_nil)
      (pss_cons (ps_if (PW.pt (pw_or (pt_cmpR op_ne (pe_ix ix_tup (pv 1) pe_int (fun _ _ => rfl)) pe_str (nomark _)) (pw_or (pt_cmpR op_ne (pe_callB call_len_seq (by rfl) z.len PySem.boot_len (pa_cons (pv 1) pa_nil)) pe_int (nomark _)) (pw_or (pt_not (pt_val (pe_callB call_isi (by rfl) z.isinstance (by decide +kernel) (pa_cons (pe_ix ix_tup (pv 1) pe_int (fun _ _ => rfl)) (pa_cons (pe_bltn (v := .ty "list") (by rfl) z.list (by decide +kernel) rfl) pa_nil))))) (pw_or1 (pt_not (pt_val (pe_callB call_isi (by rfl) z.isinstance (by decide +kernel) (pa_cons (pe_ix ix_tup (pv 1) pe_int (fun _ _ => rfl)) (pa_cons (pe_bltn (v := .ty "list") (by rfl) z.list (by decide +kernel) rfl) pa_nil)))))))))) (pss_one (ps_ret pe_bl)) pss_nil)
      (pss_cons (ps_if (PW.pt (pw_or (pt_cmpR op_ne (pe_callB call_len_seq (by rfl) z.len PySem.boot_len (pa_cons (pe_ix ix_tup (pv 1) pe_int (fun _ _ => rfl)) pa_nil)) (pv 2) (nomark _)) (pw_or (pt_cmpR op_ne (pe_callB call_len_seq (by rfl) z.len PySem.boot_len (pa_cons (pe_ix ix_tup (pv 1) pe_int (fun _ _ => rfl)) pa_nil)) (pv 2) (nomark _)) (pw_or1 (pt_not (pt_val (pe_callB (cr_all rfl) (by rfl) z.all (by decide +kernel) (pa_cons (pe_lc (own := [("_law_row", 3)]) (g := gName 3) (tt := tYes) (te := (tCB (rIsi K) (tCons (tVar 3) (tCons (tC (.ty "list")) tNil)))) (by rfl) sc__law_right.nd (pi_list (pe_ix ix_tup (pv 1) pe_int (fun _ _ => rfl))) (blkOk_by (own := [("_law_row", 3)]) (N := ["_law_matrix", "_law_told", "_law_many", "_law_row", "_law_k", "_law_one_here"]) (sc := defScope s__law_right) (by decide +kernel)) (fun _ _ _ _ _ => by exact (pg_name (i := 3) sc__law_right.nd rfl (.inl rfl))) (fun _ _ _ _ _ => by exact pts_nil) (fun _ _ _ _ _ => by exact (pe_callB call_isi (by rfl) z.isinstance (by decide +kernel) (pa_cons (pv 3) (pa_cons (pe_bltn (v := .ty "list") (by rfl) z.list (by decide +kernel) rfl) pa_nil))))) pa_nil)))))))) (pss_one (ps_ret pe_bl)) pss_nil)
      (pss_cons (ps_for PassesOwn.never rfl (pi_enum (by rfl) z.enumerate (pa_cons (pe_ix ix_tup (pv 1) pe_int (fun _ _ => rfl)) pa_nil)) (pg_tup (by rfl) (pgs_cons (pg_name (i := 4) sc__law_right.nd rfl (.inl rfl)) (pgs_cons (pg_name (i := 3) sc__law_right.nd rfl (.inl rfl)) pgs_nil))) (pss_one (ps_if (PW.pt (pw_or (pt_cmpR (op_neD hr.units) (pe_slice sl_list (pv 3) (po_some (pv 4)) po_none) (pe_op op_cat (pe_lst (pa_cons (pe_tup (pa_cons pe_int (pa_cons pe_int pa_nil))) pa_nil)) (pe_op op_rep (pe_lst (pa_cons (pe_tup (pa_cons pe_int (pa_cons pe_int pa_nil))) pa_nil)) (pe_op op_sub (pe_op op_sub (pv 2) pe_int) (pv 4)))) (nomark _)) (pw_or1 (pt_cmpR op_ne (pe_callB call_len_seq (by rfl) z.len PySem.boot_len (pa_cons (pv 3) pa_nil)) (pv 2) (nomark _))))) (pss_one (ps_ret pe_bl)) pss_nil)))
      (pss_one (ps_ret (pe_and (pe_callB (cr_all rfl) (by rfl) z.all (by decide +kernel) (pa_cons (pe_lc (own := [("_law_one_here", 5)]) (g := gName 5) (tt := tYes) (te := (tOp (rI0 fun i j => V.bl (decide (i > j))) (tOp (rIxT K) (tVar 5) (tC (.int 0))) (tC (.int 0)))) (by rfl) sc__law_right.nd (pi_list (pe_ix ix_tup (pv 1) pe_int (fun _ _ => rfl))) (blkOk_by (own := [("_law_one_here", 5)]) (N := ["_law_matrix", "_law_told", "_law_many", "_law_row", "_law_k", "_law_one_here"]) (sc := defScope s__law_right) (by decide +kernel)) (fun _ _ _ _ _ => by exact (pg_name (i := 5) sc__law_right.nd rfl (.inl rfl))) (fun _ _ _ _ _ => by exact pts_nil) (fun _ _ _ _ _ => by exact (pe_cmpR op_gt (pe_ix ix_tup (pv 5) pe_int (fun _ _ => rfl)) pe_int (nomark _)))) pa_nil)) (pe_one (pe_cmpR (op_eqD hr.units) (pe_cal c__law_of hr (pa_cons (pe_ix ix_tup (pv 1) pe_int (fun _ _ => rfl)) (pa_cons (pe_ix ix_tup (pv 1) pe_int (fun _ _ => rfl)) pa_nil))) (pv 0) (nomark _)))))))))))), ?_⟩
    have lw := hs.1
    refine ⟨_, rfl, a, _, rfl, .inl (SqL.of ha), ?_⟩
    rcases hor with ⟨q, xs, ht, hx, R⟩ | ⟨l, d, us, L, ds, ht, hl, sL, hd, R⟩
    · obtain ⟨vx, eq, fx⟩ := hx
      have hx : FrLK K H q xs := ⟨vx, eq, fx⟩
      have lx := R.len
      have lvx := fx.1
      refine ⟨_, rfl, _, .ty "tuple", _, _, true, rfl, .ty _, .base (.tup ht), kit_ty (by decide +kernel), _, rfl, iteF ?_⟩
      refine ⟨_, rfl, (by show 0 ≤ sizeLine; decide), fun e0 he0 => ?_⟩
      have s0 := same_new (o := .tup []) he0
      refine ⟨nD xs, .tuple [], .tup (SqT.of (s0 _ _ ht)) (.cons (.str _) (.cons (hx.same s0).dp .nil)), .tup (SqT.of upd_same) .nil, nD_shaped xs, nil_shaped, _, rfl, iteC (d := false) rfl (iteF ?_)⟩
      refine ⟨_, rfl, 1, rfl, t, _, rfl, SqT.of (s0 _ _ ht), fun z => absurd (show HT.sIx 2 0 (some 1) = 0 from z.1) (by decide), fun s1 hs1 => ?_⟩
      have c1 : cutV [V.str "not", V.ref q] (some 1) none = [V.ref q] := by rfl
      rw [c1]
      have ss1 := same_new (o := .tup [V.ref q]) hs1
      have S1 := s0.trans ss1
      refine ⟨s1, rfl, ⟨_, SqT.of upd_same⟩, fun D hD => lc_tup (K := K) (a := s1) (xs := [.ref q]) (fun i G => Same (upd (upd H e0 (.tup [])) s1 (.tup [V.ref q])) G ∧ G D = some (.lst (List.replicate i (V.bl true)))) ⟨same_new hD, upd_same⟩ (fun i G _ hP => SqT.of (hP.1 _ _ upd_same)) (fun i x G hx9 hP => ?_) (fun G hP => ?_)⟩
      · obtain ⟨sG, hacc⟩ := hP
        obtain rfl : x = .ref q := List.mem_singleton.mp (List.mem_of_getElem? hx9)
        have hi : i < 1 := (List.getElem?_eq_some_iff.mp hx9).1
        refine ⟨rfl, _, rfl, .inl ⟨q, xs, rfl, hx.same (S1.trans sG), by omega, R.den, fun H2 s2 => ?_⟩⟩
        refine ⟨_, s2 _ _ hacc, ?_, fun b o e => ?_, ?_⟩
        · rw [List.length_replicate]
          exact small1000 (by omega)
        · rw [upd_ne (ne_of_none e hD)]
          exact s2 _ _ (sG _ _ e)
        · rw [upd_same, List.replicate_succ']
      · obtain ⟨sG, hacc⟩ := hP
        refine ⟨D, List.replicate _ true, rfl, SqL.of (by rw [List.map_replicate]; exact hacc), ?_⟩
        rw [rep_all]
        refine ⟨_, rfl, iteF ?_⟩
        have SG := S1.trans sG
        have htG := SG _ _ ht
        have eqG := SG _ _ eq
        have I0 : ∀ {X : Hp}, X t = some (.tup [.str "not", .ref q]) → SqT K X t [.str "not", .ref q] := fun h => SqT.of h
        refine ⟨_, rfl, t, _, 0, .str "not", rfl, rfl, I0 htG, a0, rfl, ?_⟩
        refine ⟨_, rfl, iteC (d := true) (by decide +kernel) (iteT ?_)⟩
        refine ⟨_, rfl, t, _, rfl, .inr (I0 htG), rfl, _, rfl, iteC (d := true) (decide_eq_true rfl) (iteT ?_)⟩
        refine ⟨_, rfl, t, _, 1, .ref q, rfl, rfl, I0 htG, a1, _, .ty "list", _, _, true, rfl, .ty _, .base (.lst eqG), kit_ty (by decide +kernel), _, rfl, iteF ?_⟩
        refine ⟨_, rfl, t, _, 1, .ref q, rfl, rfl, I0 htG, a1, q, vx, rfl, .inl (SqL.of eqG), _, rfl, rfl, _, rfl, iteNT (by rw [lvx, lx, lw]) ?_⟩
        refine ⟨_, rfl, t, _, 1, .ref q, rfl, rfl, I0 htG, a1, (by show 2 ≤ sizeLine; decide), fun t0 ht0 => ⟨(by show 1 ≤ sizeLine; decide), fun l3 hl3 => ?_⟩⟩
        have s4 := same_new (o := .tup [.int 0, .int 1]) ht0
        have s5 := same_new (o := .lst [.ref t0]) hl3
        refine ⟨_, rfl, l3, (ws.length : Nat), [.ref t0], rfl, rfl, upd_same, by omega, by omega, Nat.le_trans (show 1 * ((ws.length : Nat) : Int).toNat ≤ 1000 by omega) (by decide), fun l4 hl4 => ?_⟩
        rw [rep_flat, Int.toNat_natCast] at *
        have s6 := same_new (o := .lst (List.replicate ws.length (V.ref t0))) hl4
        have S6 := s4.trans (s5.trans s6)
        have f0 : Fr _ t0 0 := nul_fr (s6 _ _ (s5 _ _ upd_same))
        have fZ : FrL _ l4 (List.replicate ws.length 0) := ⟨_, upd_same, FrsAt.rep f0 _⟩
        have S8 := SG.trans S6
        refine ⟨.list (xs.map frD), .list ((List.replicate ws.length 0).map frD), (hx.same S8).dp, fZ.dp, frL_shaped _, frL_shaped _, ?_⟩
        rw [frL_eqv, decide_eq_false (by rw [lw]; exact R.ne)]
        refine ⟨_, rfl, iteF ?_⟩
        have htX := S6 _ _ htG
        have haX := S8 _ _ ha
        refine ⟨_, rfl, t, _, 1, .ref q, rfl, rfl, I0 htX, a1, _, rfl, a, rfl, ⟨_, SqL.of haX⟩, fun P hP => ?_⟩
        generalize upd (upd (upd G t0 _) l3 _) l4 _ = X at *
        refine lc_list (K := K) (a := a) (xs := ws) (fun i Y => Same X Y ∧ FrL Y P (comeL (A.take i) xs)) ⟨same_new hP, [], upd_same, by rw [List.take_zero]; exact .nil⟩ (fun i Y _ hQ => SqL.of (hQ.1 _ _ haX)) (fun i x Y hxx hQ => ?_) (fun Y hQ => ?_)
        · obtain ⟨sY, vs, eP, fv⟩ := hQ
          obtain ⟨b1, r, rfl, hr2, fb⟩ := hs.get hxx
          have li := (List.getElem?_eq_some_iff.mp hr2).1
          have mr := List.mem_of_getElem? hr2
          have SY := S8.trans sY
          have lv := FrsAt.len fv
          unfold comeL at lv
          rw [List.length_map, List.length_take] at lv
          obtain ⟨p1, p2, dk⟩ := R.in1 r mr
          refine ⟨rfl, _, rfl, _, rfl, t, _, 1, .ref q, rfl, rfl, I0 (sY _ _ htX), a1, b1, q, r, xs, p1, p2, rfl, (fb.same SY).k, hx.same SY, dk, fun p G2 hp s9 f9 => ?_⟩
          have eP9 := s9 _ _ eP
          refine ⟨_, eP9, small1000 (by omega), fun b o e => ?_, vs ++ [.ref p], upd_same, ?_⟩
          · rw [upd_ne (ne_of_none e hP)]
            exact s9 _ _ (sY _ _ e)
          · unfold comeL
            rw [show A.take (i + 1) = A.take i ++ [r] by rw [List.take_succ, hr2]; rfl, List.map_append]
            refine FrsAt.app (PrsAt.but (PrsAt.same fv s9) SameBut.upd eP9) (FrsAt.one ?_)
            show (upd G2 P _) p = _
            rw [upd_ne (ne_of f9 eP9 (fun z => nomatch z))]
            exact f9
        · obtain ⟨sY, fP⟩ := hQ
          rw [List.take_of_length_le (by omega)] at fP
          obtain ⟨p1, p2, dk⟩ := R.in2
          have SY := S8.trans sY
          refine ⟨q, P, xs, comeL A xs, p1, p2, rfl, hx.same SY, fP.k, dk, fun p G2 hp s9 f9 => ?_⟩
          refine ⟨p, _, 0, _, rfl, rfl, SqT.of f9, a0, _, _, rfl, rfl, ?_⟩
          show Q (.bl (decide ((dotR xs (comeL A xs)).num ≤ 0))) G2
          rw [decide_eq_true (num_low R.le)]
          exact k _ (SY.trans s9)
    · have lL := R.len
      have dl := R.dl
      have lu := sL.1
      obtain ⟨vd, ed, fd⟩ := hd
      have hd : FrL H d ds := ⟨vd, ed, fd⟩
      have lvd := FrsAt.len fd
      have seD : ∀ {X : Hp}, Same H X → Dp K X (.ref t) (aD L ds) := fun s => .tup (SqT.of (s _ _ ht)) (.cons (.str _) (.cons (.lst (SqL.of (s _ _ hl)) (sL.same s).dpAll) (.cons (hd.same s).dp .nil)))
      refine ⟨_, rfl, _, .ty "tuple", _, _, true, rfl, .ty _, .base (.tup ht), kit_ty (by decide +kernel), _, rfl, iteF ?_⟩
      refine ⟨_, rfl, (by show 0 ≤ sizeLine; decide), fun e0 he0 => ?_⟩
      have s0 := same_new (o := .tup []) he0
      refine ⟨aD L ds, .tuple [], seD s0, .tup (SqT.of upd_same) .nil, aD_shaped L ds, nil_shaped, _, rfl, iteC (d := false) rfl (iteF ?_)⟩
      refine ⟨_, rfl, 1, rfl, t, _, rfl, SqT.of (s0 _ _ ht), fun z => absurd (show HT.sIx 3 0 (some 1) = 0 from z.1) (by decide), fun s1 hs1 => ?_⟩
      have c1 : cutV [V.str "above", V.ref l, V.ref d] (some 1) none = [V.ref l, V.ref d] := by rfl
      rw [c1]
      have ss1 := same_new (o := .tup [V.ref l, V.ref d]) hs1
      have S1 := s0.trans ss1
      refine ⟨s1, rfl, ⟨_, SqT.of upd_same⟩, fun D hD => lc_tup (K := K) (a := s1) (xs := [.ref l, .ref d]) (fun i G => Same (upd (upd H e0 (.tup [])) s1 (.tup [V.ref l, V.ref d])) G ∧ G D = some (.lst (List.replicate i (V.bl true)))) ⟨same_new hD, upd_same⟩ (fun i G _ hP => SqT.of (hP.1 _ _ upd_same)) (fun i x G hx9 hP => ?_) (fun G hP => ?_)⟩
      · obtain ⟨sG, hacc⟩ := hP
        have mx := List.mem_of_getElem? hx9
        have hi : i < 2 := (List.getElem?_eq_some_iff.mp hx9).1
        have SG := S1.trans sG
        refine ⟨rfl, _, rfl, ?_⟩
        have fin : ∀ H2, Same G H2 → ∃ acc, H2 D = some (.lst acc) ∧ acc.length < sizeLine ∧ Same (upd (upd H e0 (.tup [])) s1 (.tup [V.ref l, V.ref d])) (upd H2 D (.lst (acc ++ [.bl true]))) ∧ (upd H2 D (.lst (acc ++ [.bl true]))) D = some (.lst (List.replicate (i + 1) (V.bl true))) := fun H2 s2 => by
          refine ⟨_, s2 _ _ hacc, ?_, fun b o e => ?_, ?_⟩
          · rw [List.length_replicate]
            exact small1000 (by omega)
          · rw [upd_ne (ne_of_none e hD)]
            exact s2 _ _ (sG _ _ e)
          · rw [upd_same, List.replicate_succ']
        simp only [List.mem_cons, List.not_mem_nil, or_false] at mx
        rcases mx with rfl | rfl
        · exact .inr ⟨l, us, L, rfl, SG _ _ hl, sL.same SG, by omega, fun r hr => ⟨by have := R.wid r hr; omega, R.den1 r hr⟩, fin⟩
        · exact .inl ⟨d, ds, rfl, (hd.same SG).k, by omega, R.den2, fin⟩
      · obtain ⟨sG, hacc⟩ := hP
        refine ⟨D, List.replicate _ true, rfl, SqL.of (by rw [List.map_replicate]; exact hacc), ?_⟩
        rw [rep_all]
        refine ⟨_, rfl, iteF ?_⟩
        have SG := S1.trans sG
        have htG := SG _ _ ht
        have hlG := SG _ _ hl
        have edG := SG _ _ ed
        have I0 : ∀ {X : Hp}, X t = some (.tup [.str "above", .ref l, .ref d]) → SqT K X t [.str "above", .ref l, .ref d] := fun h => SqT.of h
        refine ⟨_, rfl, t, _, 0, .str "above", rfl, rfl, I0 htG, a0, rfl, ?_⟩
        refine ⟨_, rfl, iteC (d := false) (by decide +kernel) (iteF ?_)⟩
        refine iteF ?_
        refine ⟨_, rfl, t, _, 0, .str "above", rfl, rfl, I0 htG, a0, rfl, _, rfl, iteC (d := false) (by decide +kernel) (iteF ?_)⟩
        refine ⟨_, rfl, t, _, rfl, .inr (I0 htG), rfl, _, rfl, iteC (d := false) rfl (iteF ?_)⟩
        refine ⟨_, rfl, t, _, 1, .ref l, rfl, rfl, I0 htG, a1, _, .ty "list", _, _, true, rfl, .ty _, .base (.lst hlG), kit_ty (by decide +kernel), _, rfl, iteF ?_⟩
        refine ⟨_, rfl, t, _, 2, .ref d, rfl, rfl, I0 htG, a2, _, .ty "list", _, _, true, rfl, .ty _, .base (.lst edG), kit_ty (by decide +kernel), _, rfl, iteF ?_⟩
        refine ⟨_, rfl, t, _, 1, .ref l, rfl, rfl, I0 htG, a1, l, us, rfl, .inl (SqL.of hlG), _, rfl, rfl, _, rfl, iteNT (by rw [lu, lL, lw]) ?_⟩
        refine ⟨_, rfl, t, _, 2, .ref d, rfl, rfl, I0 htG, a2, d, vd, rfl, .inl (SqL.of edG), _, rfl, rfl, _, rfl, iteNT (by rw [lvd, dl, lw]) ?_⟩
        refine ⟨_, rfl, t, _, 1, .ref l, rfl, rfl, I0 htG, a1, l, rfl, ⟨_, SqL.of hlG⟩, fun D2 hD2 => lc_list (K := K) (a := l) (xs := us) (fun i X => Same G X ∧ X D2 = some (.lst (List.replicate i (V.bl true)))) ⟨same_new hD2, upd_same⟩ (fun i X _ hP => SqL.of (hP.1 _ _ hlG)) (fun i x X hx9 hP => ?_) (fun X hP => ?_)⟩
        · obtain ⟨sX, hacc2⟩ := hP
          obtain ⟨b, r, rfl, hr2, fb⟩ := sL.get hx9
          have hi := (List.getElem?_eq_some_iff.mp hx9).1
          obtain ⟨bs, hb, _⟩ := fb.same (SG.trans sX)
          refine ⟨rfl, _, rfl, _, .ty "list", _, _, true, rfl, .ty _, .base (.lst hb), kit_ty (by decide +kernel), _, hacc2, ?_, fun b o e => ?_, ?_⟩
          · rw [List.length_replicate]
            exact small1000 (by omega)
          · rw [upd_ne (ne_of_none e hD2)]
            exact sX _ _ e
          · rw [upd_same, List.replicate_succ']
        · obtain ⟨sX, hacc2⟩ := hP
          refine ⟨D2, List.replicate _ true, rfl, SqL.of (by rw [List.map_replicate]; exact hacc2), ?_⟩
          rw [rep_all]
          refine ⟨_, rfl, iteF ?_⟩
          have SX := SG.trans sX
          have htX := SX _ _ ht
          have hlX := SX _ _ hl
          refine ⟨_, rfl, t, _, 1, .ref l, rfl, rfl, I0 htX, a1, l, us, rfl, SqL.of hlX, ?_⟩
          refine for_it (walk_enum (K := K) (a := l) (xs := us)) (fun i σ Y => Same X Y ∧ ∃ y3 y4 : Option V, σ = [some (.ref a), some (.ref t), some (.int (ws.length : Nat)), y3, y4, none]) ⟨fun _ _ h => h, none, none, rfl⟩ (fun i σ Y _ hP => SqL.of (hP.1 _ _ hlX)) (fun i v σ Y Y2 hi hP hY => ?_) (fun σ Y hP => ?_)
          · obtain ⟨sY, y3, y4, rfl⟩ := hP
            obtain ⟨Tq, u, v2, rfl, nT, rfl, e2, e3⟩ := hY
            dsimp only at e2 e3
            cases e2
            obtain ⟨b, r, rfl, hr2, fb⟩ := sL.get e3
            have wr := R.wid r (List.mem_of_getElem? hr2)
            have sN := same_new (o := .tup [.int ((i : Nat) : Int), .ref b]) nT
            have SY := (SX.trans sY).trans sN
            obtain ⟨bs, hb, lb, fbs⟩ := (fb.same SY).len
            refine ⟨Tq, _, rfl, SqT.of upd_same, rfl, _, _, rfl, _, _, rfl, rfl, ?_⟩
            refine ⟨_, rfl, _, rfl, i, rfl, b, bs, rfl, SqL.of hb, fun s5 hs5 => ?_⟩
            rw [cut_from]
            have ss5 := same_new (o := .lst (bs.drop i)) hs5
            have f5 : FrL _ s5 (r.drop i) := ⟨_, upd_same, FrsAt.drop (PrsAt.same fbs ss5) i⟩
            refine ⟨(by show 2 ≤ sizeLine; decide), fun t1 ht1 => ⟨(by show 1 ≤ sizeLine; decide), fun l1 hl1 => ?_⟩⟩
            have s1 := same_new (o := .tup [.int 1, .int 1]) ht1
            have s2 := same_new (o := .lst [.ref t1]) hl1
            refine ⟨(by show 2 ≤ sizeLine; decide), fun t0 ht0 => ⟨(by show 1 ≤ sizeLine; decide), fun l3 hl3 => ?_⟩⟩
            have s4 := same_new (o := .tup [.int 0, .int 1]) ht0
            have s5' := same_new (o := .lst [.ref t0]) hl3
            have hi9 : i < A.length := by omega
            refine ⟨_, rfl, _, _, rfl, rfl, _, rfl, _, _, rfl, rfl, l3, ((A.length - 1 - i : Nat) : Int), [.ref t0], rfl, ?_, upd_same, by omega, by omega, Nat.le_trans (show 1 * ((A.length - 1 - i : Nat) : Int).toNat ≤ 1000 by omega) (by decide), fun l4 hl4 => ?_⟩
            · show V.int (((ws.length : Nat) : Int) - 1 - ((i : Nat) : Int)) = _
              rw [show ((ws.length : Nat) : Int) - 1 - ((i : Nat) : Int) = ((A.length - 1 - i : Nat) : Int) by omega]
            rw [rep_flat, Int.toNat_natCast] at *
            have s6 := same_new (o := .lst (List.replicate (A.length - 1 - i) (V.ref t0))) hl4
            refine ⟨l1, l4, _, _, rfl, rfl, s6 _ _ (s5' _ _ (s4 _ _ upd_same)), upd_same, ?_, fun l5 hl5 => ?_⟩
            · rw [List.length_replicate]
              exact Nat.le_of_lt (small1000 (show 1 + (A.length - 1 - i) ≤ 1000 by omega))
            have s7 := same_new (o := .lst ([V.ref t1] ++ List.replicate (A.length - 1 - i) (V.ref t0))) hl5
            have F2 := s4.trans (s5'.trans (s6.trans s7))
            have f1 : Fr _ t1 1 := one_fr (F2 _ _ (s2 _ _ upd_same))
            have f0 : Fr _ t0 0 := nul_fr (s7 _ _ (s6 _ _ (s5' _ _ upd_same)))
            have fZ : FrL _ l5 (1 :: List.replicate (A.length - 1 - i) 0) := ⟨_, upd_same, FrsAt.app (FrsAt.one f1) (FrsAt.rep f0 _)⟩
            have SS := s1.trans (s2.trans F2)
            refine ⟨.list ((r.drop i).map frD), .list ((1 :: List.replicate (A.length - 1 - i) 0).map frD), (f5.same SS).dp, fZ.dp, frL_shaped _, frL_shaped _, ?_⟩
            rw [frL_eqv, decide_eq_true (R.tri i r hr2)]
            refine ⟨_, rfl, iteF ?_⟩
            refine ⟨_, rfl, b, bs, rfl, .inl (SqL.of (SS _ _ (ss5 _ _ hb))), _, rfl, rfl, _, rfl, iteNT (by rw [lb, wr, lw]) ?_⟩
            exact ⟨sY.trans (sN.trans (ss5.trans SS)), _, _, rfl⟩
          · obtain ⟨sY, y3, y4, rfl⟩ := hP
            have SY := SX.trans sY
            have htY := SY _ _ ht
            have edY := SY _ _ ed
            refine ⟨_, rfl, t, _, 2, .ref d, rfl, rfl, I0 htY, a2, d, rfl, ⟨_, SqL.of edY⟩, fun D3 hD3 => lc_list (K := K) (a := d) (xs := vd) (fun i X => Same Y X ∧ X D3 = some (.lst (List.replicate i (V.bl true)))) ⟨same_new hD3, upd_same⟩ (fun i X _ hP => SqL.of (hP.1 _ _ edY)) (fun i x X hx9 hP => ?_) (fun X hP => ?_)⟩
            · obtain ⟨sX9, hacc3⟩ := hP
              obtain ⟨p, q, rfl, hq2, hp⟩ := FrsAt.get fd hx9
              have hi := (List.getElem?_eq_some_iff.mp hx9).1
              refine ⟨rfl, _, rfl, p, _, 0, .int q.num, rfl, rfl, SqT.of ((SY.trans sX9) _ _ hp), a0, _, _, rfl, rfl, _, hacc3, ?_, fun b o e => ?_, ?_⟩
              · rw [List.length_replicate]
                exact small1000 (by omega)
              · rw [upd_ne (ne_of_none e hD3)]
                exact sX9 _ _ e
              · rw [upd_same, List.replicate_succ', show (fun i j : Int => V.bl (decide (i > j))) q.num 0 = V.bl true from congrArg V.bl (decide_eq_true (num_up (R.pos q (List.mem_of_getElem? hq2))))]
            · obtain ⟨sX9, hacc3⟩ := hP
              refine ⟨D3, List.replicate _ true, rfl, SqL.of (by rw [List.map_replicate]; exact hacc3), ?_⟩
              rw [rep_all]
              refine ⟨_, rfl, iteT ?_⟩
              have S9 := SY.trans sX9
              obtain ⟨p1, p2, ok⟩ := R.ok
              refine ⟨_, rfl, t, _, 1, .ref l, rfl, rfl, I0 (S9 _ _ ht), a1, _, rfl, t, _, 2, .ref d, rfl, rfl, I0 (S9 _ _ ht), a2, l, d, us, L, ds, p1, p2, rfl, S9 _ _ hl, sL.same S9, (hd.same S9).k, ok, fun p vs' H9 hp s9 h9 se => ?_⟩
              have S10 := S9.trans s9
              rw [R.eq] at se
              refine ⟨_, rfl, .list (llD A), .list (llD A), .lst (SqL.of h9) se.dpAll, .lst (SqL.of (S10 _ _ ha)) (hs.same S10).dpAll, ll_shaped _, ll_shaped _, ?_⟩
              rw [ll_eqv]
              exact k _ S10
end
end E1

namespace E1
open PySem PySem.Spec PyProof.Rows L2
theorem list_ext {xs ys : List Rat} {n : Nat} (hx : xs.length = n) (hy : ys.length = n) (h : ∀ t, t < n → xs.getD t 0 = ys.getD t 0) : xs = ys := by
  refine List.ext_getElem (by rw [hx, hy]) fun i h1 h2 => ?_
  have := h i (by omega)
  rw [List.getD_eq_getElem?_getD, List.getD_eq_getElem?_getD, List.getElem?_eq_getElem h1, List.getElem?_eq_getElem h2] at this
  exact this
/-! ### sizes of the law's matrices -/
theorem Sc.frac {b e : Int} {q : Rat} (he : e ≠ 0) (h : (e : Rat) * q = (b : Rat)) : Sc e b.natAbs q := ⟨b, by rw [Rat.mul_comm]; exact h, Nat.le_refl _⟩
theorem Sc.bq {D : Int} {B n : Nat} {q : Rat} (h : Sc D B q) (hD : D ≠ 0) (h1 : D.natAbs < 2 ^ n) (h2 : B < 2 ^ n) : Bq n q := by
  obtain ⟨a, b⟩ := Sc.bits h hD h1 h2
  rw [Int.natAbs_natCast] at b
  exact ⟨a, b⟩
theorem dot_sc {D E : Int} {B C : Nat} : ∀ xs ys : List Rat, (∀ x ∈ xs, Sc D B x) → (∀ y ∈ ys, Sc E C y) → Sc (D * E) (xs.length * (B * C)) (dotR xs ys)
  | [], ys, _, _ => by
    have : dotR [] ys = 0 := by cases ys <;> rfl
    rw [this]
    exact Sc.zero
  | x :: xs, [], _, _ => Sc.zero
  | x :: xs, y :: ys, hx, hy => by
    have i := dot_sc xs ys (fun q hq => hx q (List.mem_cons_of_mem _ hq)) fun q hq => hy q (List.mem_cons_of_mem _ hq)
    have m := (hx x (List.mem_cons_self ..)).mul (hy y (List.mem_cons_self ..))
    show Sc (D * E) _ (x * y + dotR xs ys)
    exact (m.add i).mono (by rw [List.length_cons, Nat.add_mul, Nat.one_mul, Nat.add_comm]; exact Nat.le_refl _)
theorem dotok_sc {xs ys : List Rat} {D E : Int} {B C a b p : Nat} (hl : xs.length = ys.length) (l10 : ys.length ≤ 10) (D0 : D ≠ 0) (E0 : E ≠ 0) (hx : ∀ x ∈ xs, Sc D B x) (hy : ∀ y ∈ ys, Sc E C y)
    (a1 : D.natAbs < 2 ^ a) (a2 : B < 2 ^ a) (b1 : E.natAbs < 2 ^ b) (b2 : C < 2 ^ b) (ha : 0 < a) (ha9 : a ≤ 4400) (hb9 : b ≤ 4400) (hp : a + b + 4 ≤ p) (p9 : p ≤ 4350) : DotOk xs ys p p := by
  have DE : D * E ≠ 0 := Int.mul_ne_zero D0 E0
  have up9 : 2 ^ (a + b) ≤ 2 ^ p := Nat.pow_le_pow_right (by decide) (by omega)
  have e1 : (D * E).natAbs < 2 ^ p := by
    rw [Int.natAbs_mul]
    have := Nat.mul_lt_mul'' a1 b1
    rw [← Nat.pow_add] at this
    exact Nat.lt_of_lt_of_le this up9
  have e2 : B * C < 2 ^ (a + b) := by
    have := Nat.mul_lt_mul'' a2 b2
    rw [← Nat.pow_add] at this
    exact this
  refine ⟨hl, l10, by omega, by omega, by omega, fun q hq => ((hx q hq).bq D0 a1 a2).mono ha9, fun q hq => ((hy q hq).bq E0 b1 b2).mono hb9, fun k x y h1 h2 => ?_, fun k hk => ?_⟩
  · have sx := (hx x (List.mem_of_getElem? h1)).bq D0 a1 a2
    have sy := (hy y (List.mem_of_getElem? h2)).bq E0 b1 b2
    constructor
    · rw [Int.natAbs_mul]
      have := Nat.mul_lt_mul'' sx.1 sy.1
      rw [← Nat.pow_add] at this
      exact Nat.lt_of_lt_of_le this up9
    · have := Nat.mul_lt_mul'' sx.2 sy.2
      rw [← Nat.pow_add] at this
      exact Nat.lt_of_lt_of_le this up9
  · have s := dot_sc (xs.take k) (ys.take k) (fun x hx9 => hx x (List.mem_of_mem_take hx9)) fun y hy9 => hy y (List.mem_of_mem_take hy9)
    refine s.bq DE e1 ?_
    have l1 : (xs.take k).length ≤ 10 := by
      rw [List.length_take]
      omega
    refine Nat.lt_of_le_of_lt (Nat.mul_le_mul l1 (Nat.le_of_lt e2)) ?_
    have : 2 ^ (a + b + 4) ≤ 2 ^ p := Nat.pow_le_pow_right (by decide) hp
    rw [Nat.pow_add] at this
    have pos : 0 < 2 ^ (a + b) := Nat.pow_pos (by decide)
    omega
structure MBs (N : Nat) (A : List (List Rat)) : Prop where
  one : 1 ≤ N
  small : N < 2 ^ 700
  row : ∀ r ∈ A, ∃ D : Int, D ≠ 0 ∧ D.natAbs < 2 ^ 600 ∧ ∀ q ∈ r, Sc D N q
theorem MBs.btm {N : Nat} {A : List (List Rat)} (m : MBs N A) {s : List Rat} (hs : s ∈ A) : ∃ D, Btm D (s.map pr) ∧ D.natAbs < 2 ^ 600 ∧ ∀ q ∈ s, Sc D N q := by
  obtain ⟨D, D0, Dl, hq⟩ := m.row s hs
  refine ⟨D, ⟨D0, up Dl (by decide), fun p hp => ?_⟩, Dl, hq⟩
  obtain ⟨q, hq2, rfl⟩ := List.mem_map.mp hp
  exact ⟨den_ge q, Sc.den (hq q hq2), Nat.lt_of_le_of_lt (Sc.num (hq q hq2) D0) (Nat.lt_trans m.small (Nat.pow_lt_pow_right (by decide) (by decide)))⟩
theorem MBs.bd {N : Nat} {A : List (List Rat)} (m : MBs N A) : Bd (A.map clr) N := fun i j => by
  have zero : ∀ {n : Nat}, (0 : Int).natAbs ≤ n := Nat.zero_le _
  unfold en
  rw [List.getD_eq_getElem?_getD (l := A.map clr), List.getElem?_map]
  cases hs : A[i]? with
  | none => exact zero
  | some s =>
    have ms := List.mem_of_getElem? hs
    obtain ⟨D, bt, Dl, hq⟩ := m.btm ms
    obtain ⟨c0, cd, dv⟩ := bt.com
    show ((clr s).getD j 0).natAbs ≤ _
    unfold clr tops
    rw [List.getD_eq_getElem?_getD, List.getElem?_map, List.getElem?_map]
    cases hj : s[j]? with
    | none => exact zero
    | some q =>
      have mq := List.mem_of_getElem? hj
      obtain ⟨t, et, bt2⟩ := hq q mq
      have d9 := dv (pr q) (List.mem_map_of_mem mq)
      show (q.num * (com ((s.map pr).map (·.2)) / (q.den : Int))).natAbs ≤ N
      have tv := top_val (q := q) d9
      change ((q.num * (com ((s.map pr).map (·.2)) / (q.den : Int)) : Int) : Rat) = _ at tv
      generalize q.num * (com ((s.map pr).map (·.2)) / (q.den : Int)) = x at *
      obtain ⟨e, he⟩ := cd
      generalize com ((s.map pr).map (·.2)) = c at *
      have e0 : e ≠ 0 := fun z => by
        rw [z, Int.mul_zero] at he
        exact bt.1 he
      have xe : x * e = t := by
        have : ((x * e : Int) : Rat) = (t : Rat) := by
          rw [Rat.intCast_mul, tv, ← et, he, Rat.intCast_mul]
          grind
        exact Rat.intCast_inj.mp this
      rw [← xe, Int.natAbs_mul] at bt2
      exact Nat.le_trans (Nat.le_mul_of_pos_right _ (Int.natAbs_pos.mpr e0)) bt2
theorem gd_of {N : Nat} {A : List (List Rat)} (sq : Sq A) (sym : ∀ i j, i < A.length → j < A.length → ad A i j = ad A j i) (m : MBs N A) (big : (A.length + 1) * (fac A.length * N ^ A.length) < 2 ^ 3400) : GdM A := by
  have lc : (A.map clr).length = A.length := List.length_map _
  refine ⟨sq, sym, fun s hs => let ⟨D, h, l, _⟩ := m.btm hs; ⟨D, h, l⟩, by rw [lc]; exact sq.1, by rw [lc]; omega, fun r hr => ?_, N, m.one, m.bd, by rw [lc]; exact big⟩
  obtain ⟨s, hs, rfl⟩ := List.mem_map.mp hr
  rw [clr_len, sq.2 s hs]

/-! ### what is told of a matrix above nought -/
section
variable {N : Nat} {A : List (List Rat)}
theorem dd_int (m : MBs N A) {b : Nat} (k : Nat) (h : fac k * N ^ k < 2 ^ b) : ∃ z : Int, dd (cA (A.map clr) id) k = (z : Rat) ∧ z.natAbs < 2 ^ b := by
  obtain ⟨z, e, l⟩ := dd_wh (cA_wh m.bd id) k
  exact ⟨z, e, Nat.lt_of_le_of_lt l h⟩
theorem bb_int (m : MBs N A) {b : Nat} (k i j : Nat) (h : fac (k + 1) * N ^ (k + 1) < 2 ^ b) : ∃ z : Int, bb (cA (A.map clr) id) k (cA (A.map clr) id i) j = (z : Rat) ∧ z.natAbs < 2 ^ b := by
  obtain ⟨z, e, l⟩ := bb_wh (cA_wh m.bd id) (cA_wh m.bd id i) k j
  exact ⟨z, e, Nat.lt_of_le_of_lt l h⟩
theorem fac_pow {N k n b : Nat} (h1 : 1 ≤ N) (hk : k ≤ n) (h : fac n * N ^ n < 2 ^ b) : fac k * N ^ k < 2 ^ b := Nat.lt_of_le_of_lt (Nat.mul_le_mul (fac_mono hk) (Nat.pow_le_pow_right h1 hk)) h
structure Sizes (N : Nat) (A : List (List Rat)) : Prop where
  mb : MBs N A
  b1 : (A.length + 1) * (fac A.length * N ^ A.length) < 2 ^ 2660
  b2 : fac (A.length - 1) * N ^ (A.length - 1) < 2 ^ 2000
theorem Sizes.full (S : Sizes N A) : fac A.length * N ^ A.length < 2 ^ 2660 := Nat.lt_of_le_of_lt (Nat.le_mul_of_pos_left _ (Nat.succ_pos _)) S.b1
theorem cof_ne (G : GdM A) (i : Nat) (hi : i < A.length) : (cof A i : Rat) ≠ 0 := fun z => by
  have := G.cpos i hi
  rw [z] at this
  exact absurd this (by decide +kernel)
theorem dd_ne (G : GdM A) (pos : ∀ k, k < A.length → 0 < dd (ad A) (k + 1)) {k : Nat} (hk : k ≤ A.length) : dd (cA (A.map clr) id) k ≠ 0 := fun z => by
  rw [dd_scale (c := fun i => (cof A i : Rat)) fun i j hi => G.scale i j (by omega)] at z
  rcases Rat.mul_eq_zero.mp z with z | z
  · exact mulAll_ne k (fun i hi => cof_ne G i (by omega)) z
  · exact (di_pos_lead pos).1 k hk z
theorem lo_sc (S : Sizes N A) (G : GdM A) (pos : ∀ k, k < A.length → 0 < dd (ad A) (k + 1)) {i t : Nat} (ht : t < A.length) : ∃ e b : Int, e ≠ 0 ∧ e.natAbs < 2 ^ 2660 ∧ b.natAbs < 2 ^ 2660 ∧ (e : Rat) = dd (cA (A.map clr) id) (t + 1) ∧ (e : Rat) * lo (ad A) i t = (b : Rat) ∧ (b : Rat) = bb (cA (A.map clr) id) t (cA (A.map clr) id t) i := by
  have hs : ∀ i j, i < A.length → cA (A.map clr) id i j = (fun i => (cof A i : Rat)) i * ad A i j := fun i j hi => G.scale i j hi
  obtain ⟨e, e1, e2⟩ := dd_int S.mb (t + 1) (fac_pow S.mb.one (by omega) S.full)
  obtain ⟨b, b1, b2⟩ := bb_int S.mb t t i (fac_pow S.mb.one (by omega) S.full)
  have dne := dd_ne G pos (k := t + 1) (by omega)
  refine ⟨e, b, fun z => ?_, e2, b2, e1.symm, ?_, b1.symm⟩
  · rw [z] at e1
    exact dne e1
  · rw [← lo_scale hs (fun i hi => cof_ne G i hi) ht ((di_pos_lead pos).1 (t + 1) (by omega)) i, ← e1, ← b1]
    unfold lo
    rw [Rat.mul_comm]
    exact Rat.div_mul_cancel dne
theorem di_sc (S : Sizes N A) (G : GdM A) (pos : ∀ k, k < A.length → 0 < dd (ad A) (k + 1)) {t : Nat} (ht : t < A.length) : ∃ e b : Int, e ≠ 0 ∧ e.natAbs < 2 ^ 2600 ∧ b.natAbs < 2 ^ 2660 ∧ (e : Rat) = dd (cA (A.map clr) id) t * (cof A t : Rat) ∧ (e : Rat) * di (ad A) t = (b : Rat) ∧ (b : Rat) = dd (cA (A.map clr) id) (t + 1) := by
  have hs : ∀ i j, i < A.length → cA (A.map clr) id i j = (fun i => (cof A i : Rat)) i * ad A i j := fun i j hi => G.scale i j hi
  obtain ⟨e, e1, e2⟩ := dd_int S.mb t (fac_pow S.mb.one (by omega) S.b2)
  obtain ⟨b, b1, b2⟩ := dd_int S.mb (t + 1) (fac_pow S.mb.one (by omega) S.full)
  have dne := dd_ne G pos (k := t) (by omega)
  have cne := cof_ne G t ht
  have ene : dd (cA (A.map clr) id) t * (cof A t : Rat) ≠ 0 := fun z => by
    rcases Rat.mul_eq_zero.mp z with z | z
    · exact dne z
    · exact cne z
  have cast : ((e * cof A t : Int) : Rat) = dd (cA (A.map clr) id) t * (cof A t : Rat) := by rw [Rat.intCast_mul, e1]
  refine ⟨e * cof A t, b, fun z => ?_, ?_, b2, cast, ?_, b1.symm⟩
  · rw [z] at cast
    exact ene cast.symm
  · rw [Int.natAbs_mul]
    have := Nat.mul_lt_mul'' e2 (G.pos ht).2
    rw [← Nat.pow_add] at this
    exact this
  · rw [cast, ← b1, ← di_scale hs G.cpos ht ((di_pos_lead pos).1 t (by omega)), Rat.mul_comm]
    exact Rat.div_mul_cancel ene
theorem ld_sc (S : Sizes N A) (G : GdM A) (pos : ∀ k, k < A.length → 0 < dd (ad A) (k + 1)) {i t : Nat} (ht : t < A.length) : ∃ e b : Int, e ≠ 0 ∧ e.natAbs < 2 ^ 2600 ∧ b.natAbs < 2 ^ 2660 ∧ (e : Rat) * (lo (ad A) i t * di (ad A) t) = (b : Rat) := by
  obtain ⟨e1, b1, _, _, h1, h2, h3, _⟩ := lo_sc S G pos (i := i) ht
  obtain ⟨e2, b2, n2, l2, _, _, h4, h5⟩ := di_sc S G pos ht
  refine ⟨e2, b1, n2, l2, h1, ?_⟩
  rw [← h3, h2, ← h5, ← h4]
  grind
theorem part_sc (S : Sizes N A) (G : GdM A) (pos : ∀ k, k < A.length → 0 < dd (ad A) (k + 1)) {i j k : Nat} (hi : i < A.length) (hj : j < A.length) (hk : k ≤ A.length) : Bq 2702 (sg (fun t => lo (ad A) i t * di (ad A) t * lo (ad A) j t) k) := by
  have hs : ∀ i j, i < A.length → cA (A.map clr) id i j = (fun i => (cof A i : Rat)) i * ad A i j := fun i j hi => G.scale i j hi
  have lead := (di_pos_lead pos).1
  by_cases hkn : k = A.length
  · subst hkn
    rw [← ldl G.sym lead hi hj]
    obtain ⟨e, hm⟩ := G.row hi
    obtain ⟨D, D0, Dl, hq⟩ := S.mb.row _ hm
    unfold ad
    have wr := G.sq.2 _ hm
    have mq : (A.getD i []).getD j 0 ∈ A.getD i [] := by
      rw [List.getD_eq_getElem?_getD (l := A.getD i []), List.getElem?_eq_getElem (by omega)]
      exact List.getElem_mem _
    exact (hq _ mq).bq D0 (up Dl (by decide)) (Nat.lt_trans S.mb.small (Nat.pow_lt_pow_right (by decide) (by decide)))
  · rw [ldl_part G.sym lead hi hj hk]
    obtain ⟨e, e1, e2⟩ := dd_int S.mb k (fac_pow S.mb.one (by omega) S.b2)
    obtain ⟨b, b1, b2⟩ := bb_int S.mb k i j (fac_pow S.mb.one (by omega) S.full)
    have dne := dd_ne G pos hk
    have cne := cof_ne G i hi
    have e0 : e ≠ 0 := fun z => by
      rw [z] at e1
      exact dne e1
    have c0 := (G.pos hi)
    have pe : ((en (A.map clr) i j : Int) : Rat) = (cof A i : Rat) * ad A i j := G.scale i j hi
    have sc1 : dd (cA (A.map clr) id) k = mulAll (fun i => (cof A i : Rat)) k * dd (ad A) k := dd_scale fun i j hi => G.scale i j (by omega)
    have sc2 : bb (cA (A.map clr) id) k (cA (A.map clr) id i) j = (cof A i : Rat) * mulAll (fun i => (cof A i : Rat)) k * bb (ad A) k (ad A i) j := by
      have : cA (A.map clr) id i = fun t => (cof A i : Rat) * ad A i t := funext fun t => G.scale i t hi
      rw [this]
      exact bb_scale (fun i j hi => G.scale i j (by omega)) _ _ _
    have mne := mulAll_ne (c := fun i => (cof A i : Rat)) k fun t ht => cof_ne G t (by omega)
    have qne := lead k hk
    have x := Rat.div_mul_cancel (a := bb (ad A) k (ad A i) j) qne
    have main : ((e * cof A i : Int) : Rat) * (ad A i j - bb (ad A) k (ad A i) j / dd (ad A) k) = ((e * en (A.map clr) i j - b : Int) : Rat) := by
      rw [Rat.intCast_sub, Rat.intCast_mul, Rat.intCast_mul, ← e1, ← b1, pe, sc1, sc2]
      generalize bb (ad A) k (ad A i) j / dd (ad A) k = u at *
      rw [← x]
      grind
    have fr := Sc.frac (Int.mul_ne_zero e0 (by omega)) main
    refine fr.bq (Int.mul_ne_zero e0 (by omega)) ?_ ?_
    · rw [Int.natAbs_mul]
      have := Nat.mul_lt_mul'' e2 c0.2
      rw [← Nat.pow_add] at this
      exact up this (by decide)
    · have t1 : (e * en (A.map clr) i j).natAbs < 2 ^ 2700 := by
        rw [Int.natAbs_mul]
        have := Nat.mul_lt_mul'' e2 (Nat.lt_of_le_of_lt (S.mb.bd i j) S.mb.small)
        rw [← Nat.pow_add] at this
        exact this
      have t2 := Int.natAbs_sub_le (e * en (A.map clr) i j) b
      have t3 : (2 : Nat) ^ 2660 ≤ 2 ^ 2700 := Nat.pow_le_pow_right (by decide) (by decide)
      have t4 : (2 : Nat) ^ 2702 = 4 * 2 ^ 2700 := by rw [show (2702 : Nat) = 2 + 2700 by decide, Nat.pow_add]
      omega
end
section
variable {N : Nat} {A : List (List Rat)}
theorem loM_at {q : Nat → Nat → Rat} {n k : Nat} {r : List Rat} (h : (loM q n)[k]? = some r) : k < n ∧ r = (List.range n).map fun t => lo q k t := by
  have li := (List.getElem?_eq_some_iff.mp h).1
  unfold loM at *
  rw [List.length_map, List.length_range] at li
  rw [List.getElem?_map, List.getElem?_range li] at h
  cases h
  exact ⟨li, rfl⟩
theorem loM_mem {q : Nat → Nat → Rat} {n : Nat} {r : List Rat} (h : r ∈ loM q n) : ∃ k, k < n ∧ r = (List.range n).map fun t => lo q k t := by
  obtain ⟨k, hk⟩ := List.mem_iff_getElem?.mp h
  exact ⟨k, loM_at hk⟩
theorem range_getD (f : Nat → Rat) {n t : Nat} (ht : t < n) : ((List.range n).map f).getD t 0 = f t := by
  rw [List.getD_eq_getElem?_getD, List.getElem?_map, List.getElem?_range ht]
  rfl
theorem range_get {f : Nat → Rat} {n t : Nat} {x : Rat} (h : ((List.range n).map f)[t]? = some x) : t < n ∧ x = f t := by
  have li := (List.getElem?_eq_some_iff.mp h).1
  rw [List.length_map, List.length_range] at li
  rw [List.getElem?_map, List.getElem?_range li] at h
  cases h
  exact ⟨li, rfl⟩
theorem mulR_range (f g : Nat → Rat) (n : Nat) : mulR ((List.range n).map f) ((List.range n).map g) = (List.range n).map fun t => f t * g t := by
  have gen : ∀ l : List Nat, mulR (l.map f) (l.map g) = l.map fun t => f t * g t := fun l => by
    induction l with
    | nil => rfl
    | cons x l ih => exact congrArg (f x * g x :: ·) ih
  exact gen _
theorem dot_range (f g : Nat → Rat) (n k : Nat) (hk : k ≤ n) : dotR (((List.range n).map f).take k) (((List.range n).map g).take k) = sg (fun t => f t * g t) k := by
  rw [dot_sgN _ _ k (by rw [List.length_take, List.length_map, List.length_range]; omega) (by rw [List.length_take, List.length_map, List.length_range]; omega)]
  refine sg_congr k fun t ht => ?_
  have e : ∀ f : Nat → Rat, (((List.range n).map f).take k).getD t 0 = f t := fun f => by
    rw [List.getD_eq_getElem?_getD, List.getElem?_take, if_pos ht, ← List.getD_eq_getElem?_getD, range_getD f (by omega)]
  rw [e, e]
theorem ra_of (S : Sizes N A) (G : GdM A) (pos : ∀ k, k < A.length → 0 < dd (ad A) (k + 1)) : RA A (loM (ad A) A.length) (diM (ad A) A.length) := by
  obtain ⟨lead, dpos⟩ := di_pos_lead pos
  have lL : (loM (ad A) A.length).length = A.length := by unfold loM; rw [List.length_map, List.length_range]
  have lD : (diM (ad A) A.length).length = A.length := by unfold diM; rw [List.length_map, List.length_range]
  have szl : ∀ i t, t < A.length → Bq 2660 (lo (ad A) i t) := fun i t ht => by
    obtain ⟨e, b, e0, el, bl, _, h, _⟩ := lo_sc S G pos (i := i) ht
    exact (Sc.frac e0 h).bq e0 el bl
  have szd : ∀ t, t < A.length → Bq 2660 (di (ad A) t) := fun t ht => by
    obtain ⟨e, b, e0, el, bl, _, h, _⟩ := di_sc S G pos ht
    exact (Sc.frac e0 h).bq e0 (up el (by decide)) bl
  have szp : ∀ i t, t < A.length → Bq 2660 (lo (ad A) i t * di (ad A) t) := fun i t ht => by
    obtain ⟨e, b, e0, el, bl, h⟩ := ld_sc S G pos (i := i) ht
    exact (Sc.frac e0 h).bq e0 (up el (by decide)) bl
  have dn : ∀ q, Bq 2660 q → ((q.den : Int)).natAbs < 2 ^ 8800 := fun q h => by
    rw [Int.natAbs_natCast]
    exact Nat.lt_trans h.2 (Nat.pow_lt_pow_right (by decide) (by decide))
  have el : ∀ r ∈ loM (ad A) A.length, ∀ q ∈ r, Bq 2660 q := fun r hr q hq => by
    obtain ⟨k, hk, rfl⟩ := loM_mem hr
    obtain ⟨t, ht, rfl⟩ := List.mem_map.mp hq
    exact szl k t (List.mem_range.mp ht)
  have ed : ∀ q ∈ diM (ad A) A.length, Bq 2660 q := fun q hq => by
    obtain ⟨t, ht, rfl⟩ := List.mem_map.mp hq
    exact szd t (List.mem_range.mp ht)
  refine ⟨lL, lD, fun r hr => ?_, fun k r hr => ?_, fun q hq => ?_, ⟨5320, 2702, ?_⟩, ?_, fun r hr q hq => dn q (el r hr q hq), fun q hq => dn q (ed q hq)⟩
  · obtain ⟨k, hk, rfl⟩ := loM_mem hr
    rw [List.length_map, List.length_range]
  · obtain ⟨hk, rfl⟩ := loM_at hr
    refine List.ext_getElem? fun t => ?_
    rw [List.getElem?_drop, List.getElem?_map]
    cases t with
    | zero =>
      rw [Nat.add_zero, List.getElem?_range hk]
      show some (lo (ad A) k k) = some 1
      rw [lo_one (lead (k + 1) (by omega))]
    | succ t =>
      rw [List.getElem?_cons_succ, List.getElem?_replicate]
      by_cases c : k + (t + 1) < A.length
      · rw [List.getElem?_range c, if_pos (by omega)]
        show some (lo (ad A) k (k + (t + 1))) = some 0
        rw [lo_low (lead.low (by omega)) (by omega)]
      · rw [List.getElem?_eq_none (by rw [List.length_range]; omega), if_neg (by omega)]
        rfl
  · obtain ⟨t, ht, rfl⟩ := List.mem_map.mp hq
    exact dpos t (List.mem_range.mp ht)
  · refine ⟨by rw [lL]; exact G.sq.1, fun r hr => ?_, by rw [lD, lL], fun q hq => (ed q hq).mono (by decide), fun r hr s hs => ?_⟩
    · obtain ⟨k, hk, rfl⟩ := loM_mem hr
      rw [List.length_map, List.length_range, lL]
    · obtain ⟨i, hi, rfl⟩ := loM_mem hr
      obtain ⟨j, hj, rfl⟩ := loM_mem hs
      unfold diM
      rw [mulR_range]
      refine ⟨by rw [List.length_map, List.length_map], by rw [List.length_map, List.length_range]; exact G.sq.1, by decide, by decide, by decide, fun q hq => ?_, fun q hq => ?_, fun k a b h1 h2 => ?_, fun k hk => ?_⟩
      · obtain ⟨t, ht, rfl⟩ := List.mem_map.mp hq
        exact (szp i t (List.mem_range.mp ht)).mono (by decide)
      · obtain ⟨t, ht, rfl⟩ := List.mem_map.mp hq
        exact (szl j t (List.mem_range.mp ht)).mono (by decide)
      · obtain ⟨k1, rfl⟩ := range_get h1
        obtain ⟨k2, rfl⟩ := range_get h2
        have p1 := szp i k k1
        have p2 := szl j k k1
        constructor
        · rw [Int.natAbs_mul]
          have := Nat.mul_lt_mul'' p1.1 p2.1
          rw [← Nat.pow_add] at this
          exact this
        · have := Nat.mul_lt_mul'' p1.2 p2.2
          rw [← Nat.pow_add] at this
          exact this
      · rw [List.length_map, List.length_range] at hk
        rw [dot_range _ _ _ _ hk]
        exact part_sc S G pos hi hj hk
  · refine List.ext_getElem? fun i => ?_
    unfold ofR
    rw [List.getElem?_map]
    by_cases hi : i < A.length
    · obtain ⟨e, hm⟩ := G.row hi
      have e1 : (loM (ad A) A.length)[i]? = some ((List.range A.length).map fun t => lo (ad A) i t) := by
        unfold loM
        rw [List.getElem?_map, List.getElem?_range hi]
        rfl
      rw [e1, e]
      refine congrArg some (list_ext (n := A.length) (by rw [List.length_map, lL]) (G.sq.2 _ hm) fun j hj => ?_)
      have e2 : (loM (ad A) A.length)[j]? = some ((List.range A.length).map fun t => lo (ad A) j t) := by
        unfold loM
        rw [List.getElem?_map, List.getElem?_range hj]
        rfl
      rw [List.getD_eq_getElem?_getD, List.getElem?_map, e2]
      show dotR (mulR _ (diM (ad A) A.length)) _ = ad A i j
      unfold diM
      rw [mulR_range, ldl G.sym lead hi hj]
      have := dot_range (fun t => lo (ad A) i t * di (ad A) t) (fun t => lo (ad A) j t) A.length A.length (Nat.le_refl _)
      rw [List.take_of_length_le (by rw [List.length_map, List.length_range]; exact Nat.le_refl _), List.take_of_length_le (by rw [List.length_map, List.length_range]; exact Nat.le_refl _)] at this
      exact this
    · rw [List.getElem?_eq_none (by omega), List.getElem?_eq_none (by omega)]
      rfl
end

/-! ### what is told of a matrix that is not above nought -/
theorem come_at {A : List (List Rat)} {xs : List Rat} (t : Nat) (ht : t < A.length) (sq : Sq A) (lx : xs.length = A.length) : (comeL A xs)[t]? = some (sg (fun j => ad A t j * xs.getD j 0) A.length) := by
  have e1 : A[t]? = some A[t] := List.getElem?_eq_getElem ht
  unfold comeL
  rw [List.getElem?_map, e1]
  refine congrArg some ?_
  show dotR A[t] xs = _
  rw [dot_sgN _ _ A.length (sq.2 _ (List.getElem_mem ht)) lx]
  exact sg_congr _ fun s _ => by rw [ad_row e1]
theorem rn_of {N : Nat} {A : List (List Rat)} {xs : List Rat} {k : Nat} (mb : MBs N A) (sq : Sq A) (lx : xs.length = A.length) (sh : Shows A.length (ad A) (fun t => xs.getD t 0) k) (bd : BddB 2660 xs) : RN A xs := by
  obtain ⟨E, E0, El, hE⟩ := bd
  have c2660 : (2 : Nat) ^ 2660 < 2 ^ 2661 := Nat.pow_lt_pow_right (by decide) (by decide)
  have lc : (comeL A xs).length = A.length := by unfold comeL; rw [List.length_map]
  have n10 := sq.1
  have szx : ∀ q ∈ xs, Bq 2661 q := fun q hq => (hE q hq).bq E0 (Nat.lt_trans El c2660) c2660
  have szc : ∀ q ∈ comeL A xs, Bq 3370 q := fun q hq => by
    obtain ⟨r, hr, rfl⟩ := List.mem_map.mp hq
    obtain ⟨D, D0, Dl, hD⟩ := mb.row r hr
    have s := dot_sc r xs hD hE
    refine s.bq (Int.mul_ne_zero D0 E0) ?_ ?_
    · rw [Int.natAbs_mul]
      have := Nat.mul_lt_mul'' Dl El
      rw [← Nat.pow_add] at this
      exact up this (by decide)
    · have l := sq.2 r hr
      have h1 : N * 2 ^ 2660 ≤ 2 ^ 700 * 2 ^ 2660 := Nat.mul_le_mul_right _ (Nat.le_of_lt mb.small)
      have h2 : r.length * (N * 2 ^ 2660) ≤ 10 * (2 ^ 700 * 2 ^ 2660) := Nat.mul_le_mul (by omega) h1
      refine Nat.lt_of_le_of_lt h2 ?_
      rw [← Nat.pow_add, show (3370 : Nat) = 10 + (700 + 2660) by decide, Nat.pow_add 2 10]
      exact Nat.mul_lt_mul_of_lt_of_le (by decide) (Nat.le_refl _) (Nat.pow_pos (by decide))
  have ct : ∀ t y, (comeL A xs)[t]? = some y → t < A.length ∧ y = sg (fun j => ad A t j * xs.getD j 0) A.length := fun t y h => by
    have lt := (List.getElem?_eq_some_iff.mp h).1
    rw [lc] at lt
    rw [come_at t lt sq lx] at h
    exact ⟨lt, (Option.some.inj h).symm⟩
  have xt : ∀ t x, xs[t]? = some x → x = xs.getD t 0 := fun t x h => by
    rw [List.getD_eq_getElem?_getD, h]
    rfl
  have one9 : (1 : Nat) < 2 ^ 3370 := Nat.lt_of_lt_of_le (show 1 < 2 ^ 1 by decide) (Nat.pow_le_pow_right (by decide) (by decide))
  have whole : ∀ m, m ≤ A.length → dotR (xs.take m) ((comeL A xs).take m) = if k < m then sg (fun j => ad A k j * xs.getD j 0) A.length else 0 := fun m hm => by
    rw [dot_sgN _ _ m (by rw [List.length_take]; omega) (by rw [List.length_take]; omega)]
    have e : ∀ t, t < m → (xs.take m).getD t 0 * ((comeL A xs).take m).getD t 0 = xs.getD t 0 * sg (fun j => ad A t j * xs.getD j 0) A.length := fun t ht => by
      rw [List.getD_eq_getElem?_getD, List.getElem?_take, if_pos ht, ← List.getD_eq_getElem?_getD, List.getD_eq_getElem?_getD (l := (comeL A xs).take m), List.getElem?_take, if_pos ht, come_at t (by omega) sq lx]
      rfl
    rw [sg_congr m e]
    have z : ∀ t, t ≠ k → xs.getD t 0 * sg (fun j => ad A t j * xs.getD j 0) A.length = 0 := fun t ht => by
      by_cases c : t < k
      · have := sh.rows t c
        rw [this]
        grind
      · have := sh.low t (by omega)
        rw [show xs.getD t 0 = 0 from this]
        grind
    by_cases c : k < m
    · rw [if_pos c, sg_alone m c fun t _ hne => z t hne]
      have := sh.one
      rw [show xs.getD k 0 = 1 from this]
      grind
    · rw [if_neg c]
      exact sg_zero m fun t ht => z t (by omega)
  refine ⟨lx, fun r hr => ?_, ⟨3370, 3370, ?_⟩, fun z => ?_, ?_, fun q hq => ?_⟩
  · obtain ⟨D, D0, Dl, hD⟩ := mb.row r hr
    exact ⟨3370, 3370, dotok_sc (a := 700) (b := 2661) (by rw [lx, sq.2 r hr]) (by omega) D0 E0 hD hE (up Dl (by decide)) mb.small (Nat.lt_trans El c2660) c2660 (by decide) (by decide) (by decide) (by decide) (by decide)⟩
  · refine ⟨by rw [lx, lc], by rw [lc]; exact n10, by decide, by decide, by decide, fun q hq => (szx q hq).mono (by decide), fun q hq => (szc q hq).mono (by decide), fun t x y h1 h2 => ?_, fun m hm => ?_⟩
    · obtain ⟨lt, hy⟩ := ct t y h2
      have hx := xt t x h1
      have sx := szx x (List.mem_of_getElem? h1)
      have sy := szc y (List.mem_of_getElem? h2)
      have p61 : (2 : Nat) ^ 2661 ≤ 2 ^ 3370 := Nat.pow_le_pow_right (by decide) (by decide)
      by_cases c : t < k
      · have y0 : y = 0 := by rw [hy]; exact sh.rows t c
        rw [y0]
        show (x.num * (0 : Rat).num).natAbs < _ ∧ x.den * (0 : Rat).den < _
        rw [show (0 : Rat).num = 0 from rfl, show (0 : Rat).den = 1 from rfl, Int.mul_zero, Nat.mul_one]
        exact ⟨Nat.pow_pos (by decide), Nat.lt_of_lt_of_le sx.2 p61⟩
      · by_cases c2 : t = k
        · have x1 : x = 1 := by rw [hx, c2]; exact sh.one
          rw [x1]
          rw [show (1 : Rat).num = 1 from rfl, show (1 : Rat).den = 1 from rfl, Int.one_mul, Nat.one_mul]
          exact sy
        · have x0 : x = 0 := by rw [hx]; exact sh.low t (by omega)
          rw [x0, show (0 : Rat).num = 0 from rfl, show (0 : Rat).den = 1 from rfl, Int.zero_mul, Nat.one_mul]
          exact ⟨Nat.pow_pos (by decide), sy.2⟩
    · rw [whole m (by omega)]
      split
      · have := come_at k sh.lt sq lx
        exact szc _ (List.mem_of_getElem? this)
      · exact ⟨by rw [show (0 : Rat).num = 0 from rfl]; exact Nat.pow_pos (by decide), one9⟩
  · have := sh.one
    rw [z] at this
    rw [show (List.replicate A.length (0 : Rat)).getD k 0 = 0 by rw [List.getD_eq_getElem?_getD, List.getElem?_replicate]; split <;> rfl] at this
    exact absurd this (by decide +kernel)
  · have w := whole A.length (Nat.le_refl _)
    rw [List.take_of_length_le (by omega), List.take_of_length_le (by omega), if_pos sh.lt] at w
    rw [w]
    exact sh.own
  · rw [Int.natAbs_natCast]
    exact Nat.lt_trans (szx q hq).2 (Nat.pow_lt_pow_right (by decide) (by decide))
/-! ### where the matrices come from -/
def nN (kd : Int) : Nat := if kd = 0 then 2 ^ 50 else 2 ^ 662
theorem nN_one (kd : Int) : 1 ≤ nN kd := by unfold nN; split <;> exact Nat.pow_pos (by decide)
theorem nN_small (kd : Int) : 2 * nN kd < 2 ^ 700 := by
  unfold nN
  split
  · exact Nat.lt_of_lt_of_le (show 2 * 2 ^ 50 < 2 ^ 52 by decide) (Nat.pow_le_pow_right (by decide) (by decide))
  · have e : (2 : Nat) * 2 ^ 662 = 2 ^ 663 := by rw [show (663 : Nat) = 1 + 662 by decide, Nat.pow_add]
    rw [e]
    exact Nat.pow_lt_pow_right (by decide) (by decide)
def N9 (kd : Int) (n : Nat) : Prop := n ≤ 9 ∧ (kd ≠ 0 → n ≤ 4)
theorem N9.k {kd : Int} {n : Nat} (h : N9 kd n) : NK kd n := ⟨by have := h.1; omega, h.2⟩
theorem fac_le {k : Nat} (h : k ≤ 11) : fac k ≤ 2 ^ 26 := Nat.le_trans (fac_mono h) (by decide)
/-- the bounds that are asked, out of the number of bits -/
theorem size_pow {N n u b s : Nat} (hN : N ≤ 2 ^ u) (hs : (n + 1) * fac n ≤ 2 ^ s) (hb : s + u * n < b) : (n + 1) * (fac n * N ^ n) < 2 ^ b := by
  have h1 : N ^ n ≤ 2 ^ (u * n) := by
    rw [Nat.pow_mul]
    exact Nat.pow_le_pow_left hN n
  rw [← Nat.mul_assoc]
  have h2 := Nat.mul_le_mul hs h1
  refine Nat.lt_of_le_of_lt h2 ?_
  rw [← Nat.pow_add]
  exact Nat.pow_lt_pow_right (by decide) hb
theorem fac30 {n : Nat} (h : n ≤ 10) : (n + 1) * fac n ≤ 2 ^ 30 := Nat.le_trans (Nat.mul_le_mul (show n + 1 ≤ 2 ^ 4 by omega) (fac_le (by omega))) (by decide)
theorem fac7 {n : Nat} (h : n ≤ 4) : (n + 1) * fac n ≤ 2 ^ 7 := Nat.le_trans (Nat.mul_le_mul (show n + 1 ≤ 5 by omega) (fac_mono h)) (by decide)
theorem nN_pow (kd : Int) : nN kd ≤ 2 ^ (if kd = 0 then 50 else 662) ∧ 2 * nN kd ≤ 2 ^ (if kd = 0 then 51 else 663) := by
  unfold nN
  split
  · exact ⟨Nat.le_refl _, by decide⟩
  · refine ⟨Nat.le_refl _, ?_⟩
    rw [show (663 : Nat) = 1 + 662 by decide, Nat.pow_add]
    exact Nat.le_refl _
theorem sizes_of {kd : Int} {N : Nat} {A : List (List Rat)} (h9 : N9 kd A.length) (hN : N = nN kd ∨ N = 2 * nN kd) (m : MBs N A) : Sizes N A := by
  have hN2 : N ≤ 2 ^ (if kd = 0 then 51 else 663) := by
    rcases hN with h | h
    · rw [h]
      exact Nat.le_trans (nN_pow kd).1 (Nat.pow_le_pow_right (by decide) (by split <;> decide))
    · rw [h]
      exact (nN_pow kd).2
  obtain ⟨n9, n4⟩ := h9
  by_cases c : kd = 0
  · rw [if_pos c] at hN2
    exact ⟨m, size_pow hN2 (fac30 (by omega)) (by omega), Nat.lt_of_le_of_lt (Nat.le_mul_of_pos_left _ (Nat.succ_pos _)) (size_pow (n := A.length - 1) hN2 (fac30 (by omega)) (by omega))⟩
  · rw [if_neg c] at hN2
    have := n4 c
    exact ⟨m, size_pow hN2 (fac7 (by omega)) (by omega), Nat.lt_of_le_of_lt (Nat.le_mul_of_pos_left _ (Nat.succ_pos _)) (size_pow (n := A.length - 1) hN2 (fac7 (by omega)) (by omega))⟩
theorem beside_size {kd : Int} {n : Nat} (h9 : N9 kd n) : (n + 1 + 1) * (fac (n + 1) * nN kd ^ (n + 1)) < 2 ^ 3400 := by
  have hN2 := (nN_pow kd).1
  obtain ⟨n9, n4⟩ := h9
  by_cases c : kd = 0
  · rw [if_pos c] at hN2
    exact size_pow hN2 (fac30 (by omega)) (by omega)
  · rw [if_neg c] at hN2
    have := n4 c
    exact size_pow hN2 (fac30 (by omega)) (by omega)
/-- the rows that are added up of triangles -/
theorem mbs_of {kd : Int} {L : List (List Rat)} {ds : List Rat} {n : Nat} (h9 : N9 kd n) (low : Low n kd L) (dl : ds.length = n) (hd : ∀ q ∈ ds, PlD kd q) : MBs (nN kd) (ofR L ds) ∧ OfOk L ds 1000 1000 := by
  obtain ⟨ul, DL, dn, en⟩ := low
  have lL := ul.1
  obtain ⟨n9, n4⟩ := h9
  have wid : ∀ r ∈ L, r.length = n := fun r hr => by
    obtain ⟨i, hi⟩ := List.mem_iff_getElem?.mp hr
    exact (ul.2 i r hi).1
  have tr : kd ≠ 0 → tri n ≤ 6 := fun c => by
    have := n4 c
    rcases (by omega : n = 0 ∨ n = 1 ∨ n = 2 ∨ n = 3 ∨ n = 4) with rfl | rfl | rfl | rfl | rfl <;> decide
  obtain ⟨Dd, M, Dd0, hM, hDM, hDd, hds⟩ : ∃ (Dd : Int) (M : Nat), Dd ≠ 0 ∧ (if kd = 0 then M = 3 else M = 2 ^ 30) ∧ True ∧ Dd.natAbs ≤ (if kd = 0 then 12000000000 else 2 ^ 120) ∧ ∀ q ∈ ds, SM Dd M q := by
    by_cases c : kd = 0
    · exact ⟨12000000000, 3, by decide, by rw [if_pos c], trivial, by rw [if_pos c]; decide, fun q hq => (hd q hq).1 c⟩
    · obtain ⟨D, d1, d2⟩ := Dn.list (kd := kd) ds fun q hq => ⟨fun z => absurd z c, (hd q hq).2⟩
      refine ⟨D, 2 ^ 30, d1.ne, by rw [if_neg c], trivial, ?_, fun q hq => ?_⟩
      · rw [if_neg c]
        exact Nat.le_trans (d1.nz c) (Nat.pow_le_pow_right (by decide) (by have := n4 c; omega))
      · have := d2 q hq
        rwa [show mP kd = 2 ^ 30 from if_neg c] at this
  have hDL : DL.natAbs ≤ (if kd = 0 then 12 else 2 ^ 180) := by
    by_cases c : kd = 0
    · rw [if_pos c, dn.z c]
      decide
    · rw [if_neg c]
      exact Nat.le_trans (dn.nz c) (Nat.pow_le_pow_right (by decide) (by have := tr c; omega))
  have hmP : mP kd = if kd = 0 then 3 else 2 ^ 30 := rfl
  have mul_sm : ∀ r ∈ L, ∀ q ∈ mulR r ds, SM (DL * Dd) (mP kd * M) q := fun r hr q hq => by
    obtain ⟨t, ht⟩ := List.mem_iff_getElem?.mp hq
    have lt := (List.getElem?_eq_some_iff.mp ht).1
    rw [mulR_len] at lt
    have e := mulR_at r ds t
    rw [List.getD_eq_getElem?_getD, ht] at e
    change q = _ at e
    rw [e]
    have g1 : r.getD t 0 ∈ r := by
      rw [List.getD_eq_getElem?_getD, List.getElem?_eq_getElem (by omega)]
      exact List.getElem_mem _
    have g2 : ds.getD t 0 ∈ ds := by
      rw [List.getD_eq_getElem?_getD, List.getElem?_eq_getElem (by omega)]
      exact List.getElem_mem _
    exact (en r hr _ g1).mul (hds _ g2)
  have prod0 : DL * Dd ≠ 0 := Int.mul_ne_zero dn.ne Dd0
  refine ⟨⟨nN_one kd, Nat.lt_of_le_of_lt (Nat.le_mul_of_pos_left _ (by decide)) (nN_small kd), fun r hr => ?_⟩, ?_⟩
  · obtain ⟨r0, h0, rfl⟩ := List.mem_map.mp hr
    refine ⟨DL * Dd * DL, Int.mul_ne_zero prod0 dn.ne, ?_, fun q hq => ?_⟩
    · rw [Int.natAbs_mul, Int.natAbs_mul]
      by_cases c : kd = 0
      · rw [if_pos c] at hDL hDd
        have h1 := Nat.mul_le_mul (Nat.mul_le_mul hDL hDd) hDL
        exact Nat.lt_of_le_of_lt h1 (Nat.lt_of_lt_of_le (show 12 * 12000000000 * 12 < 2 ^ 50 by decide) (Nat.pow_le_pow_right (by decide) (by decide)))
      · rw [if_neg c] at hDL hDd
        have h1 := Nat.mul_le_mul (Nat.mul_le_mul hDL hDd) hDL
        rw [← Nat.pow_add, ← Nat.pow_add] at h1
        exact Nat.lt_of_le_of_lt h1 (Nat.pow_lt_pow_right (by decide) (by decide))
    · obtain ⟨s, hs, rfl⟩ := List.mem_map.mp hq
      have sm := dot_sm (mulR r0 ds) s (mul_sm r0 h0) (en s hs)
      refine Sc.mono sm ?_
      have lm : (mulR r0 ds).length ≤ n := by
        rw [mulR_len, wid r0 h0, dl]
        omega
      rw [Int.natAbs_mul, Int.natAbs_mul]
      by_cases c : kd = 0
      · rw [if_pos c] at hDL hDd hM
        rw [hmP, if_pos c, hM, show nN kd = 2 ^ 50 from if_pos c]
        have h1 := Nat.mul_le_mul (Nat.mul_le_mul (show (mulR r0 ds).length ≤ 9 by omega) (Nat.le_refl (3 * 3 * 3))) (Nat.mul_le_mul (Nat.mul_le_mul hDL hDd) hDL)
        exact Nat.le_trans h1 (by decide)
      · rw [if_neg c] at hDL hDd hM
        rw [hmP, if_neg c, hM, show nN kd = 2 ^ 662 from if_neg c]
        have h1 := Nat.mul_le_mul (Nat.mul_le_mul (show (mulR r0 ds).length ≤ 2 ^ 2 by have := n4 c; omega) (Nat.le_refl (2 ^ 30 * 2 ^ 30 * 2 ^ 30))) (Nat.mul_le_mul (Nat.mul_le_mul hDL hDd) hDL)
        refine Nat.le_trans h1 ?_
        rw [← Nat.pow_add, ← Nat.pow_add, ← Nat.pow_add, ← Nat.pow_add, ← Nat.pow_add, ← Nat.pow_add]
        exact Nat.pow_le_pow_right (by decide) (by decide)
  · have b1 : DL.natAbs < 2 ^ 200 := Nat.lt_of_le_of_lt hDL (by split <;> exact Nat.lt_of_le_of_lt (by first | (show 12 ≤ 2 ^ 180; exact Nat.le_trans (show 12 ≤ 2 ^ 4 by decide) (Nat.pow_le_pow_right (by decide) (by decide))) | exact Nat.le_refl _) (Nat.pow_lt_pow_right (by decide) (show 180 < 200 by decide)))
    have b2 : Dd.natAbs < 2 ^ 150 := Nat.lt_of_le_of_lt hDd (by split <;> exact Nat.lt_of_le_of_lt (by first | (show 12000000000 ≤ 2 ^ 120; exact Nat.le_trans (show 12000000000 ≤ 2 ^ 40 by decide) (Nat.pow_le_pow_right (by decide) (by decide))) | exact Nat.le_refl _) (Nat.pow_lt_pow_right (by decide) (show 120 < 150 by decide)))
    have bP : mP kd ≤ 2 ^ 30 := mP_le kd
    have bM : M ≤ 2 ^ 30 := by
      by_cases c : kd = 0
      · rw [if_pos c] at hM
        rw [hM]
        decide
      · rw [if_neg c] at hM
        rw [hM]
        exact Nat.le_refl _
    have c1 : (DL * Dd).natAbs < 2 ^ 410 := by
      rw [Int.natAbs_mul]
      have := Nat.mul_lt_mul'' b1 b2
      rw [← Nat.pow_add] at this
      exact up this (by decide)
    have c2 : mP kd * M * (DL * Dd).natAbs < 2 ^ 410 := by
      rw [Int.natAbs_mul]
      have h1 := Nat.mul_lt_mul'' b1 b2
      have h2 := Nat.mul_le_mul bP bM
      rw [← Nat.pow_add] at h1 h2
      have := Nat.mul_lt_mul_of_le_of_lt h2 h1 (Nat.pow_pos (by decide))
      rw [← Nat.pow_add] at this
      exact this
    have c3 : mP kd * DL.natAbs < 2 ^ 230 := by
      have := Nat.mul_lt_mul_of_le_of_lt bP b1 (Nat.pow_pos (by decide))
      rw [← Nat.pow_add] at this
      exact this
    refine ⟨by omega, fun r hr => by rw [wid r hr, lL], by rw [dl, lL], fun q hq => ?_, fun r hr s hs => ?_⟩
    · refine (Sc.bq (hds q hq) Dd0 (up b2 (show 150 ≤ 200 by decide)) ?_).mono (by decide)
      have := Nat.mul_lt_mul_of_le_of_lt bM b2 (Nat.pow_pos (by decide))
      rw [← Nat.pow_add] at this
      exact up this (by decide)
    · have lm : (mulR r ds).length = n := by
        rw [mulR_len, wid r hr, dl]
        omega
      exact dotok_sm (a := 410) (b := 230) (by rw [lm, wid s hs]) (by rw [wid s hs]; omega) prod0 dn.ne (mul_sm r hr) (en s hs) c1 c2 (up b1 (by decide)) c3 (by decide) (by decide) (by decide) (by decide) (by decide)

end E1

namespace E1
open PySem PySem.Spec PyProof.Rows L2
theorem mbs_sym {kd : Int} {n : Nat} {A : List (List Rat)} (h9 : N9 kd n) (h : SymP kd n A) : MBs (nN kd) A := by
  refine ⟨nN_one kd, Nat.lt_of_le_of_lt (Nat.le_mul_of_pos_left _ (by decide)) (nN_small kd), fun r hr => ?_⟩
  obtain ⟨D, d1, d2⟩ := Dn.list r (h.pl r hr)
  rw [h.wid r hr] at d1
  have sz : D.natAbs < 2 ^ 121 := d1.sz (by decide) fun c => by have := h9.2 c; omega
  refine ⟨D, d1.ne, up sz (by decide), fun q hq => Sc.mono (d2 q hq) ?_⟩
  by_cases c : kd = 0
  · rw [show nN kd = 2 ^ 50 from if_pos c, show mP kd = 3 from if_pos c, d1.z c]
    decide
  · rw [show nN kd = 2 ^ 662 from if_neg c]
    refine Nat.le_trans (Nat.mul_le_mul (mP_le kd) (Nat.le_of_lt sz)) ?_
    rw [← Nat.pow_add]
    exact Nat.pow_le_pow_right (by decide) (by decide)
theorem ten_list : ∀ xs : List Rat, (∀ q ∈ xs, q.num.natAbs ≤ 1000000000 ∧ q.den ≤ 1000000000) → ∃ D : Int, D ≠ 0 ∧ D.natAbs ≤ 1000000000 ^ xs.length ∧ ∀ q ∈ xs, SM D (2 ^ 30) q
  | [], _ => ⟨1, by decide, by decide, fun q hq => by cases hq⟩
  | x :: xs, h => by
    obtain ⟨D, d0, d1, d2⟩ := ten_list xs fun q hq => h q (List.mem_cons_of_mem _ hq)
    obtain ⟨p1, p2⟩ := h x (List.mem_cons_self ..)
    have x0 := den_ge x
    refine ⟨D * (x.den : Int), Int.mul_ne_zero d0 (by omega), ?_, fun q hq => ?_⟩
    · rw [Int.natAbs_mul, Int.natAbs_natCast, List.length_cons, Nat.pow_succ]
      exact Nat.mul_le_mul d1 p2
    · rcases List.mem_cons.mp hq with rfl | hq
      · have s : SM (q.den : Int) (2 ^ 30) q := ⟨q.num, q_eq q, by
          rw [Int.natAbs_natCast]
          exact Nat.le_trans (Nat.le_trans p1 (by decide)) (Nat.le_mul_of_pos_right _ (by omega))⟩
        rw [Int.mul_comm]
        exact s.grow D
      · exact (d2 q hq).grow _
theorem flat_len {m : Nat} : ∀ C : List (List Rat), (∀ r ∈ C, r.length = m) → C.flatten.length = C.length * m
  | [], _ => by simp
  | r :: C, h => by
    rw [List.flatten_cons, List.length_append, h r (List.mem_cons_self ..), flat_len C fun s hs => h s (List.mem_cons_of_mem _ hs), List.length_cons, Nat.add_mul, Nat.one_mul, Nat.add_comm]
theorem mbs_gram {kd : Int} {n m : Nat} {C : List (List Rat)} (h9 : N9 kd n) (lC : C.length = n) (mn : m ≤ n) (hC : ∀ r ∈ C, r.length = m ∧ ∀ q ∈ r, Pl kd q) : MBs (nN kd) (gramR C) := by
  refine ⟨nN_one kd, Nat.lt_of_le_of_lt (Nat.le_mul_of_pos_left _ (by decide)) (nN_small kd), fun r hr => ?_⟩
  obtain ⟨r0, h0, rfl⟩ := List.mem_map.mp hr
  obtain ⟨l0, p0⟩ := hC r0 h0
  have n9 := h9.1
  by_cases c : kd = 0
  · refine ⟨144, by decide, Nat.lt_of_lt_of_le (show (144 : Int).natAbs < 2 ^ 8 by decide) (Nat.pow_le_pow_right (by decide) (by decide)), fun q hq => ?_⟩
    obtain ⟨s, hs, rfl⟩ := List.mem_map.mp hq
    have sm := dot_sm (D := 12) (E := 12) (M := 3) (N := 3) r0 s (fun q hq => (p0 q hq).1 c) fun q hq => ((hC s hs).2 q hq).1 c
    refine Sc.mono sm ?_
    rw [show nN kd = 2 ^ 50 from if_pos c, l0]
    exact Nat.le_trans (Nat.mul_le_mul_right _ (Nat.mul_le_mul_right _ (show m ≤ 9 by omega))) (by decide)
  · have n4 := h9.2 c
    obtain ⟨D1, d10, d11, d12⟩ := ten_list r0 fun q hq => (p0 q hq).2 c
    obtain ⟨D2, d20, d21, d22⟩ := ten_list C.flatten fun q hq => by
      obtain ⟨s, hs, hq⟩ := List.mem_flatten.mp hq
      exact ((hC s hs).2 q hq).2 c
    rw [l0] at d11
    rw [flat_len C fun s hs => (hC s hs).1, lC] at d21
    have e1 : D1.natAbs ≤ 1000000000 ^ 4 := Nat.le_trans d11 (Nat.pow_le_pow_right (by decide) (by omega))
    have e2 : D2.natAbs ≤ 1000000000 ^ 16 := Nat.le_trans d21 (Nat.pow_le_pow_right (by decide) (Nat.mul_le_mul n4 (Nat.le_trans mn n4)))
    have e3 : (D1 * D2).natAbs ≤ 1000000000 ^ 20 := by
      rw [Int.natAbs_mul, show (20 : Nat) = 4 + 16 by decide, Nat.pow_add]
      exact Nat.mul_le_mul e1 e2
    refine ⟨D1 * D2, Int.mul_ne_zero d10 d20, Nat.lt_of_le_of_lt e3 (by decide +kernel), fun q hq => ?_⟩
    obtain ⟨s, hs, rfl⟩ := List.mem_map.mp hq
    have sm := dot_sm r0 s d12 fun q hq => d22 q (List.mem_flatten.mpr ⟨s, hs, hq⟩)
    refine Sc.mono sm ?_
    rw [show nN kd = 2 ^ 662 from if_neg c]
    have h1 := Nat.mul_le_mul (Nat.mul_le_mul_right (2 ^ 30 * 2 ^ 30) (show r0.length ≤ 2 ^ 2 by omega)) e3
    exact Nat.le_trans h1 (by decide +kernel)
theorem dotR_comm : ∀ xs ys : List Rat, dotR xs ys = dotR ys xs
  | [], ys => by cases ys <;> rfl
  | x :: xs, [] => rfl
  | x :: xs, y :: ys => by
    show x * y + dotR xs ys = y * x + dotR ys xs
    rw [dotR_comm xs ys, Rat.mul_comm]
theorem gram_ad {C : List (List Rat)} {i j : Nat} (hi : i < C.length) (hj : j < C.length) : ad (gramR C) i j = dotR C[i] C[j] := by
  have e : (gramR C)[i]? = some (C.map fun s => dotR C[i] s) := by
    unfold gramR
    rw [List.getElem?_map, List.getElem?_eq_getElem hi]
    rfl
  rw [ad_row e, List.getD_eq_getElem?_getD, List.getElem?_map, List.getElem?_eq_getElem hj]
  rfl
theorem gram_sq {C : List (List Rat)} (h : C.length ≤ 10) : Sq (gramR C) := by
  have l : (gramR C).length = C.length := by unfold gramR; rw [List.length_map]
  refine ⟨by rw [l]; exact h, fun r hr => ?_⟩
  obtain ⟨s, hs, rfl⟩ := List.mem_map.mp hr
  rw [List.length_map, l]
/-! ### the doubled one, and the one with a 1 beside it -/
def dblR (A : List (List Rat)) : List (List Rat) := A.map fun r => r.map fun q => 2 * q
theorem dbl_len (A : List (List Rat)) : (dblR A).length = A.length := by unfold dblR; rw [List.length_map]
theorem dbl_ad (A : List (List Rat)) (i j : Nat) : ad (dblR A) i j = 2 * ad A i j := by
  unfold ad dblR
  rw [List.getD_eq_getElem?_getD (l := A.map _), List.getElem?_map, List.getD_eq_getElem?_getD (l := A)]
  cases A[i]? with
  | none => show (0 : Rat) = 2 * 0; grind
  | some r =>
    show (r.map fun q => 2 * q).getD j 0 = 2 * r.getD j 0
    rw [List.getD_eq_getElem?_getD, List.getElem?_map, List.getD_eq_getElem?_getD]
    cases r[j]? with
    | none => show (0 : Rat) = 2 * 0; grind
    | some q => rfl
theorem dbl_sq {A : List (List Rat)} (h : Sq A) : Sq (dblR A) := by
  refine ⟨by rw [dbl_len]; exact h.1, fun r hr => ?_⟩
  obtain ⟨s, hs, rfl⟩ := List.mem_map.mp hr
  rw [List.length_map, dbl_len]
  exact h.2 s hs
theorem dbl_mbs {N : Nat} {A : List (List Rat)} (m : MBs N A) (h : 2 * N < 2 ^ 700) : MBs (2 * N) (dblR A) := by
  refine ⟨by have := m.one; omega, h, fun r hr => ?_⟩
  obtain ⟨s, hs, rfl⟩ := List.mem_map.mp hr
  obtain ⟨D, D0, Dl, hq⟩ := m.row s hs
  refine ⟨D, D0, Dl, fun q hq2 => ?_⟩
  obtain ⟨x, hx, rfl⟩ := List.mem_map.mp hq2
  have := (hq x hx).add (hq x hx)
  rw [show 2 * x = x + x by grind, Nat.two_mul]
  exact this
theorem bes_len (A : List (List Rat)) : (besR A).length = A.length + 1 := by unfold besR; rw [List.length_append, List.length_map]; rfl
theorem bes_row {A : List (List Rat)} {i : Nat} (hi : i < A.length) : (besR A)[i]? = some (A[i] ++ [0]) := by
  unfold besR
  rw [List.getElem?_append_left (by rw [List.length_map]; exact hi), List.getElem?_map, List.getElem?_eq_getElem hi]
  rfl
theorem bes_last (A : List (List Rat)) : (besR A)[A.length]? = some (List.replicate A.length 0 ++ [1]) := by
  unfold besR
  rw [List.getElem?_append_right (by rw [List.length_map]; exact Nat.le_refl _), List.length_map, Nat.sub_self]
  rfl
theorem bes_ad {A : List (List Rat)} (sq : Sq A) : (∀ i j, i < A.length → j < A.length → ad (besR A) i j = ad A i j) ∧ (∀ i, i < A.length → ad (besR A) i A.length = 0 ∧ ad (besR A) A.length i = 0) ∧ ad (besR A) A.length A.length = 1 := by
  have lr : ∀ i (h : i < A.length), A[i].length = A.length := fun i h => sq.2 _ (List.getElem_mem h)
  refine ⟨fun i j hi hj => ?_, fun i hi => ⟨?_, ?_⟩, ?_⟩
  · rw [ad_row (bes_row hi), ad_row (List.getElem?_eq_getElem hi), List.getD_eq_getElem?_getD, List.getElem?_append_left (by rw [lr i hi]; exact hj), ← List.getD_eq_getElem?_getD]
  · rw [ad_row (bes_row hi), List.getD_eq_getElem?_getD, List.getElem?_append_right (by rw [lr i hi]; exact Nat.le_refl _), lr i hi, Nat.sub_self]
    rfl
  · rw [ad_row (bes_last A), List.getD_eq_getElem?_getD, List.getElem?_append_left (by rw [List.length_replicate]; exact hi), List.getElem?_replicate, if_pos hi]
    rfl
  · rw [ad_row (bes_last A), List.getD_eq_getElem?_getD, List.getElem?_append_right (by rw [List.length_replicate]; exact Nat.le_refl _), List.length_replicate, Nat.sub_self]
    rfl
theorem bes_sq {A : List (List Rat)} (sq : Sq A) (h : A.length ≤ 9) : Sq (besR A) := by
  refine ⟨by rw [bes_len]; omega, fun r hr => ?_⟩
  rw [bes_len]
  unfold besR at hr
  rcases List.mem_append.mp hr with h | h
  · obtain ⟨s, hs, rfl⟩ := List.mem_map.mp h
    rw [List.length_append, sq.2 s hs]
    rfl
  · rw [List.mem_singleton.mp h, List.length_append, List.length_replicate]
    rfl
theorem bes_sym {A : List (List Rat)} (sq : Sq A) (sy : ∀ i j, i < A.length → j < A.length → ad A i j = ad A j i) : ∀ i j, i < (besR A).length → j < (besR A).length → ad (besR A) i j = ad (besR A) j i := fun i j hi hj => by
  obtain ⟨h1, h2, _⟩ := bes_ad sq
  rw [bes_len] at hi hj
  by_cases ci : i < A.length
  · by_cases cj : j < A.length
    · rw [h1 i j ci cj, h1 j i cj ci]
      exact sy i j ci cj
    · rw [show j = A.length by omega, (h2 i ci).1, (h2 i ci).2]
  · rw [show i = A.length by omega]
    by_cases cj : j < A.length
    · rw [(h2 j cj).1, (h2 j cj).2]
    · rw [show j = A.length by omega]
theorem bes_mbs {N : Nat} {A : List (List Rat)} (m : MBs N A) : MBs N (besR A) := by
  refine ⟨m.one, m.small, fun r hr => ?_⟩
  unfold besR at hr
  rcases List.mem_append.mp hr with h | h
  · obtain ⟨s, hs, rfl⟩ := List.mem_map.mp h
    obtain ⟨D, D0, Dl, hq⟩ := m.row s hs
    refine ⟨D, D0, Dl, fun q hq2 => ?_⟩
    rcases List.mem_append.mp hq2 with h | h
    · exact hq q h
    · rw [List.mem_singleton.mp h]
      exact Sc.zero
  · refine ⟨1, by decide, Nat.lt_of_lt_of_le (show (1 : Int).natAbs < 2 ^ 1 by decide) (Nat.pow_le_pow_right (by decide) (by decide)), fun q hq2 => ?_⟩
    rw [List.mem_singleton.mp h] at hq2
    rcases List.mem_append.mp hq2 with h | h
    · rw [(List.mem_replicate.mp h).2]
      exact Sc.zero
    · rw [List.mem_singleton.mp h]
      exact ⟨1, by grind, m.one⟩
theorem worth_congr {A B : Nat → Nat → Rat} {n : Nat} (h : ∀ i j, i < n → j < n → A i j = B i j) (x : Nat → Rat) : worth A n x = worth B n x := sg_congr n fun i hi => by rw [sg_congr n fun j hj => by rw [h i j hi hj]]
theorem dbl_abo {A : List (List Rat)} {n : Nat} : Abo n (ad (dblR A)) ↔ Abo n (ad A) := by
  have e : ∀ x, worth (ad (dblR A)) n x = 2 * worth (ad A) n x := fun x => by
    unfold worth
    rw [← sg_mul]
    refine sg_congr n fun i _ => ?_
    have : sg (fun j => ad (dblR A) i j * x j) n = 2 * sg (fun j => ad A i j * x j) n := by
      rw [← sg_mul]
      exact sg_congr n fun j _ => by rw [dbl_ad]; grind
    rw [this]
    grind
  constructor
  · intro h x hx
    have := h x hx
    rw [e] at this
    grind
  · intro h x hx
    have := h x hx
    rw [e]
    grind
theorem bes_worth {A : List (List Rat)} (sq : Sq A) (x : Nat → Rat) : worth (ad (besR A)) (A.length + 1) x = worth (ad A) A.length x + x A.length * x A.length := by
  obtain ⟨h1, h2, h3⟩ := bes_ad sq
  have e1 : ∀ i, i < A.length → sg (fun j => ad (besR A) i j * x j) (A.length + 1) = sg (fun j => ad A i j * x j) A.length := fun i hi => by
    show sg (fun j => ad (besR A) i j * x j) A.length + ad (besR A) i A.length * x A.length = _
    rw [(h2 i hi).1, sg_congr A.length fun j hj => by rw [h1 i j hi hj]]
    grind
  have e2 : sg (fun j => ad (besR A) A.length j * x j) (A.length + 1) = x A.length := by
    show sg (fun j => ad (besR A) A.length j * x j) A.length + ad (besR A) A.length A.length * x A.length = _
    rw [h3, sg_zero A.length fun j hj => by rw [(h2 j hj).2]; grind]
    grind
  unfold worth
  show sg (fun i => x i * sg (fun j => ad (besR A) i j * x j) (A.length + 1)) A.length + x A.length * sg (fun j => ad (besR A) A.length j * x j) (A.length + 1) = _
  rw [e2, sg_congr A.length fun i hi => by rw [e1 i hi]]
theorem worth_zero {B : Nat → Nat → Rat} {n : Nat} {x : Nat → Rat} (h : ∀ t, t < n → x t = 0) : worth B n x = 0 := sg_zero n fun i hi => by
  rw [h i hi]
  grind
theorem bes_abo {A : List (List Rat)} (sq : Sq A) : Abo (A.length + 1) (ad (besR A)) ↔ Abo A.length (ad A) := by
  constructor
  · intro h x hx
    obtain ⟨t, ht, hne⟩ := hx
    have := h (fun i => if i < A.length then x i else 0) ⟨t, by omega, by
      show (if t < A.length then x t else 0) ≠ 0
      rw [if_pos ht]
      exact hne⟩
    rw [bes_worth sq, if_neg (Nat.lt_irrefl _)] at this
    have e : worth (ad A) A.length (fun i => if i < A.length then x i else 0) = worth (ad A) A.length x := by
      unfold worth
      have ex : ∀ j, j < A.length → (fun i => if i < A.length then x i else (0 : Rat)) j = x j := fun j hj => if_pos hj
      refine sg_congr _ fun i hi => ?_
      rw [ex i hi, sg_congr A.length fun j hj => by rw [ex j hj]]
    rw [e] at this
    grind
  · intro h x hx
    obtain ⟨t, ht, hne⟩ := hx
    rw [bes_worth sq]
    have sqr := sq_low (x A.length)
    by_cases c : ∃ s, s < A.length ∧ x s ≠ 0
    · have := h x c
      grind
    · have z : ∀ s, s < A.length → x s = 0 := fun s hs => Classical.byContradiction fun hn => c ⟨s, hs, hn⟩
      have tn : t = A.length := by
        rcases Nat.lt_or_ge t A.length with q | q
        · exact absurd (z t q) hne
        · omega
      rw [worth_zero z]
      rw [tn] at hne
      have : x A.length * x A.length ≠ 0 := fun y => by
        rcases Rat.mul_eq_zero.mp y with y | y <;> exact hne y
      grind
/-! ### the built ones -/
theorem of_ad {L : List (List Rat)} {ds : List Rat} {n : Nat} (lL : L.length = n) (wid : ∀ r ∈ L, r.length = n) (dl : ds.length = n) (i j : Nat) : ad (ofR L ds) i j = sg (fun t => ad L i t * ds.getD t 0 * ad L j t) n := by
  by_cases hi : i < L.length
  · have e : (ofR L ds)[i]? = some (L.map fun s => dotR (mulR L[i] ds) s) := by
      unfold ofR
      rw [List.getElem?_map, List.getElem?_eq_getElem hi]
      rfl
    rw [ad_row e, List.getD_eq_getElem?_getD, List.getElem?_map]
    by_cases hj : j < L.length
    · rw [List.getElem?_eq_getElem hj]
      show dotR (mulR L[i] ds) L[j] = _
      rw [dot_sgN _ _ n (by rw [mulR_len, wid _ (List.getElem_mem hi), dl]; omega) (wid _ (List.getElem_mem hj))]
      exact sg_congr n fun t _ => by rw [mulR_at, ad_row (List.getElem?_eq_getElem hi), ad_row (List.getElem?_eq_getElem hj)]
    · rw [List.getElem?_eq_none (by omega)]
      show (0 : Rat) = _
      refine (sg_zero n fun t _ => ?_).symm
      have : ad L j t = 0 := by
        unfold ad
        rw [List.getD_eq_getElem?_getD (l := L), List.getElem?_eq_none (by omega)]
        rfl
      rw [this]
      grind
  · have z : ∀ M : List (List Rat), M.length = L.length → ∀ t, ad M i t = 0 := fun M hM t => by
      unfold ad
      rw [List.getD_eq_getElem?_getD (l := M), List.getElem?_eq_none (by omega)]
      rfl
    rw [z _ (by unfold ofR; rw [List.length_map])]
    exact (sg_zero n fun t _ => by rw [z L rfl]; grind).symm
theorem of_tri {L : List (List Rat)} {ds : List Rat} {n : Nat} (ul : UL n L) (dl : ds.length = n) : Tri n (ad (ofR L ds)) (ad L) (fun t => ds.getD t 0) := by
  have wid : ∀ r ∈ L, r.length = n := fun r hr => by
    obtain ⟨i, hi⟩ := List.mem_iff_getElem?.mp hr
    exact (ul.2 i r hi).1
  refine ⟨fun t ht => ?_, fun i t hit => ?_, fun i j => of_ad ul.1 wid dl i j⟩
  · have e := List.getElem?_eq_getElem (show t < L.length by rw [ul.1]; exact ht)
    rw [ad_row e]
    exact (ul.2 t _ e).2.1
  · by_cases hi : i < L.length
    · have e := List.getElem?_eq_getElem hi
      rw [ad_row e]
      exact (ul.2 i _ e).2.2 t hit
    · unfold ad
      rw [List.getD_eq_getElem?_getD (l := L), List.getElem?_eq_none (by omega)]
      rfl
theorem of_sq {L : List (List Rat)} {ds : List Rat} (h : L.length ≤ 10) : Sq (ofR L ds) ∧ (ofR L ds).length = L.length := by
  have l : (ofR L ds).length = L.length := by unfold ofR; rw [List.length_map]
  refine ⟨⟨by rw [l]; exact h, fun r hr => ?_⟩, l⟩
  obtain ⟨s, hs, rfl⟩ := List.mem_map.mp hr
  rw [List.length_map, l]
/-- where the pivots are above 0, the triangles told are the ones that it was built of -/
theorem of_told {L : List (List Rat)} {ds : List Rat} {n : Nat} (ul : UL n L) (dl : ds.length = n) (hp : ∀ q ∈ ds, 0 < q) : loM (ad (ofR L ds)) n = L ∧ diM (ad (ofR L ds)) n = ds ∧ Abo n (ad (ofR L ds)) := by
  have T := of_tri ul dl
  have dpos : ∀ t, t < n → 0 < ds.getD t 0 := fun t ht => hp _ (by
    rw [List.getD_eq_getElem?_getD, List.getElem?_eq_getElem (by omega)]
    exact List.getElem_mem _)
  have dne : ∀ t, t < n → ds.getD t 0 ≠ 0 := fun t ht z => by
    have := dpos t ht
    rw [z] at this
    exact absurd this (by decide +kernel)
  have led := T.led dne
  refine ⟨?_, ?_, abo_of (fun i j _ _ => T.eq i j) dpos T.one fun i t h _ => T.low i t h⟩
  · refine List.ext_getElem? fun i => ?_
    by_cases hi : i < n
    · have e := List.getElem?_eq_getElem (show i < L.length by rw [ul.1]; exact hi)
      unfold loM
      rw [List.getElem?_map, List.getElem?_range hi, e]
      refine congrArg some (list_ext (n := n) (by rw [List.length_map, List.length_range]) (ul.2 i _ e).1 fun t ht => ?_)
      rw [range_getD _ ht]
      unfold lo
      rw [T.bb dne ht, T.dd dne ht, ← ad_row e]
      have d0 := led t (by omega)
      have x := div_both (m := ds.getD t 0 * dd (ad (ofR L ds)) t) (x := ad L i t) (y := 1) (fun z => by
        rcases Rat.mul_eq_zero.mp z with z | z
        · exact dne t ht z
        · exact d0 z) (by decide +kernel)
      have r1 : ds.getD t 0 * ad L i t * dd (ad (ofR L ds)) t = ds.getD t 0 * dd (ad (ofR L ds)) t * ad L i t := by grind
      have r2 : ds.getD t 0 * dd (ad (ofR L ds)) t = ds.getD t 0 * dd (ad (ofR L ds)) t * 1 := by grind
      rw [r1]
      rw [← r2] at x
      rw [x]
      grind
    · unfold loM
      rw [List.getElem?_eq_none (by rw [List.length_map, List.length_range]; omega), List.getElem?_eq_none (by rw [ul.1]; omega)]
  · refine list_ext (n := n) (by unfold diM; rw [List.length_map, List.length_range]) dl fun t ht => ?_
    unfold diM
    rw [range_getD _ ht]
    unfold di
    rw [T.dd dne ht]
    have := Rat.div_mul_cancel (a := ds.getD t 0 * dd (ad (ofR L ds)) t) (led t (by omega))
    generalize ds.getD t 0 * dd (ad (ofR L ds)) t / dd (ad (ofR L ds)) t = u at *
    have e0 : (u - ds.getD t 0) * dd (ad (ofR L ds)) t = 0 := by grind
    rcases Rat.mul_eq_zero.mp e0 with z | z
    · grind
    · exact absurd z (led t (by omega))
theorem of_not {L : List (List Rat)} {ds : List Rat} {n p : Nat} (ul : UL n L) (dl : ds.length = n) (hp : p < n) (dp : ds.getD p 0 ≤ 0) : ¬ Abo n (ad (ofR L ds)) := by
  have T := of_tri ul dl
  exact abo_not (fun i j _ _ => T.eq i j) T.one (fun i t h _ => T.low i t h) hp dp

end E1

namespace E1
open PySem PySem.Spec PyProof.Rows L2
theorem cut_ints (ns : List Int) (lo hi : Option Int) : ∃ cs : List Int, cutV (ns.map V.int) lo hi = cs.map V.int := by
  unfold cutV
  rw [← List.map_drop, ← List.map_take]
  exact ⟨_, rfl⟩
theorem Same.seq {K : PySem.W.Frag} {H H' : Hp} {a : Addr} {xs : List V} (s : Same H H') (h : SqL K H a xs) : SqL K H' a xs := by
  rcases h with (h | ⟨o, h⟩) | h
  · exact .inl (.inl (s _ _ h))
  · exact .inl (.inr ⟨o, s _ _ h⟩)
  · exact .inr h
theorem sqT_but {K : PySem.W.Frag} {H H' : Hp} {a q : Addr} {xs us : List V} (h : SqT K H a xs) (d : SameBut q H H') (hq : H q = some (.lst us)) : SqT K H' a xs := by
  have ne : ∀ {o : HO}, H a = some o → o ≠ .lst us → a ≠ q := fun e n z => by
    rw [z, hq] at e
    exact n (Option.some.inj e).symm
  rcases h with (h | ⟨o, h⟩) | h
  · exact .inl (.inl (d _ _ (ne h fun z => nomatch z) h))
  · exact .inl (.inr ⟨o, d _ _ (ne h fun z => nomatch z) h⟩)
  · exact .inr h

def wordV (b : Bool) : V := if b = true then .str "above" else .str "not"
theorem scal_word (b : Bool) : scal (wordV b) (wordV b) = true := by cases b <;> rfl
/-- what has been told of a matrix -/
def TG (K : PySem.W.Frag) (G : Hp) (t q : Addr) (A : List (List Rat)) (b : Bool) : Prop :=
  (b = true ∧ ∃ (d : Addr) (us : List V), G t = some (.tup [.str "above", .ref q, .ref d]) ∧ G q = some (.lst us) ∧ SeL G us (loM (ad A) A.length) ∧ FrL G d (diM (ad A) A.length) ∧ ∀ k, k < A.length → 0 < dd (ad A) (k + 1)) ∨
  (b = false ∧ ∃ (xs : List Rat) (k : Nat), G t = some (.tup [.str "not", .ref q]) ∧ FrLK K G q xs ∧ xs.length = A.length ∧ Shows A.length (ad A) (fun t => xs.getD t 0) k ∧ ∀ b N : Nat, 1 ≤ N → Bd (A.map clr) N → (A.length + 1) * (fac A.length * N ^ A.length) < 2 ^ b → BddB b xs)
theorem TG.same {K : PySem.W.Frag} {G G' : Hp} {t q : Addr} {A : List (List Rat)} {b : Bool} (h : TG K G t q A b) (s : Same G G') : TG K G' t q A b := by
  rcases h with ⟨e, d, us, h1, h2, h3, h4, h5⟩ | ⟨e, xs, k, h1, h2, h3, h4, h5⟩
  · exact .inl ⟨e, d, us, s _ _ h1, s _ _ h2, h3.same s, h4.same s, h5⟩
  · exact .inr ⟨e, xs, k, s _ _ h1, h2.same s, h3, h4, h5⟩
theorem TG.abo {K : PySem.W.Frag} {G : Hp} {t q : Addr} {A : List (List Rat)} {b : Bool} (h : TG K G t q A b) (sy : ∀ i j, i < A.length → j < A.length → ad A i j = ad A j i) : b = true ↔ Abo A.length (ad A) := by
  rcases h with ⟨e, d, us, h1, h2, h3, h4, h5⟩ | ⟨e, xs, k, h1, h2, h3, h4, h5⟩
  · obtain ⟨l, p⟩ := di_pos_lead h5
    exact ⟨fun _ => abo_lead sy l p, fun _ => e⟩
  · exact ⟨fun z => absurd (e.symm.trans z) (by decide), fun a => absurd a h4.not⟩
theorem TG.at {K : PySem.W.Frag} {G : Hp} {t q : Addr} {A : List (List Rat)} {b : Bool} (h : TG K G t q A b) : ∃ rest, G t = some (.tup (wordV b :: .ref q :: rest)) := by
  rcases h with ⟨rfl, d, us, h1, _⟩ | ⟨rfl, xs, k, h1, _⟩
  · exact ⟨_, h1⟩
  · exact ⟨_, h1⟩
theorem TG.lst {K : PySem.W.Frag} {G : Hp} {t q : Addr} {A : List (List Rat)} {b : Bool} (h : TG K G t q A b) : ∃ us, G q = some (.lst us) ∧ us.length = A.length := by
  rcases h with ⟨rfl, d, us, h1, h2, h3, _⟩ | ⟨rfl, xs, k, h1, ⟨us, e, f⟩, h3, _⟩
  · refine ⟨us, h2, ?_⟩
    have := h3.1
    unfold loM at this
    rwa [List.length_map, List.length_range] at this
  · exact ⟨us, e, by rw [f.1, h3]⟩
theorem signs_use {K : PySem.W.Frag} {H : Hp} {a : Addr} {ws : List V} {A : List (List Rat)} {Q : VK} {E : XK} (ha : H a = some (.lst ws)) (hs : SeL H ws A) (G : GdM A) (k : ∀ p q b H', H q = none → Same H H' → TG K H' p q A b → Q (.ref p) H') : spSignsOf K [.ref a] H Q E :=
  ⟨a, ws, A, rfl, ha, hs, G, fun p l d us H' hl s ht h2 h3 h4 h5 => k p l true H' hl s (.inl ⟨rfl, d, us, ht, h2, h3, h4, h5⟩), fun p r xs j H' hr s ht h2 h3 h4 h5 => k p r false H' hr s (.inr ⟨rfl, xs, j, ht, h2, h3, h4, h5⟩)⟩
theorem right_use {K : PySem.W.Frag} {H : Hp} {a t q : Addr} {ws : List V} {A : List (List Rat)} {b : Bool} {N : Nat} {Q : VK} {E : XK} (ha : H a = some (.lst ws)) (hs : SeL H ws A) (G : GdM A) (S : Sizes N A) (h : TG K H t q A b) (k : ∀ H', Same H H' → Q (.bl true) H') : spRight K [.ref a, .ref t] H Q E := by
  refine ⟨a, t, ws, A, rfl, ha, hs, G.sq.1, ?_, k⟩
  rcases h with ⟨rfl, d, us, h1, h2, h3, h4, h5⟩ | ⟨rfl, xs, j, h1, h2, h3, h4, h5⟩
  · exact .inr ⟨q, d, us, _, _, h1, h2, h3, h4, ra_of S G h5⟩
  · exact .inl ⟨q, xs, h1, h2, rn_of S.mb G.sq h3 h4 (h5 2660 N S.mb.one S.mb.bd S.b1)⟩
/-- the matrix of a number -/
structure MatOk (kd way : Int) (n : Nat) (L : List (List Rat)) (ds : List Rat) (A : List (List Rat)) : Prop where
  sq : Sq A
  len : A.length = n
  sym : ∀ i j, i < A.length → j < A.length → ad A i j = ad A j i
  mb : MBs (nN kd) A
  d0 : way = 0 → loM (ad A) n = L ∧ diM (ad A) n = ds ∧ Abo n (ad A)
  d1 : way = 1 → 0 < n → ¬ Abo n (ad A)
theorem MatOk.sz {kd way : Int} {n : Nat} {L A : List (List Rat)} {ds : List Rat} (h : MatOk kd way n L ds A) (h9 : N9 kd n) : Sizes (nN kd) A := sizes_of (h.len.symm ▸ h9) (.inl rfl) h.mb
theorem Sizes.gd {N : Nat} {A : List (List Rat)} (S : Sizes N A) (sq : Sq A) (sym : ∀ i j, i < A.length → j < A.length → ad A i j = ad A j i) : GdM A := gd_of sq sym S.mb (Nat.lt_trans S.b1 (Nat.pow_lt_pow_right (by decide) (by decide)))
theorem MatOk.of {kd way : Int} {n : Nat} {L : List (List Rat)} {ds : List Rat} (h9 : N9 kd n) (low : Low n kd L) (dl : ds.length = n) (hd : ∀ q ∈ ds, PlD kd q) (h1 : way ≠ 1 ∨ n = 0 → ∀ q ∈ ds, 0 < q) (h2 : way = 1 → 0 < n → ∃ t, t < n ∧ ds.getD t 0 ≤ 0) : MatOk kd way n L ds (ofR L ds) := by
  have ul := low.1
  have lL := ul.1
  obtain ⟨sq, l⟩ := of_sq (L := L) (ds := ds) (by have := h9.1; omega)
  have T := of_tri ul dl
  refine ⟨sq, by rw [l, lL], fun i j _ _ => T.sym i j, (mbs_of h9 low dl hd).1, fun w => of_told ul dl (h1 (.inl (by omega))), fun w n0 => ?_⟩
  obtain ⟨t, ht, hp⟩ := h2 w n0
  exact of_not ul dl ht hp
theorem MatOk.square {kd way : Int} {n : Nat} {L A : List (List Rat)} {ds : List Rat} (h9 : N9 kd n) (h : SymP kd n A) (w : way = 2) : MatOk kd way n L ds A :=
  ⟨⟨by have := h9.1; have := h.len; omega, fun r hr => by rw [h.len]; exact h.wid r hr⟩, h.len, fun i j hi hj => h.sym i j (h.len ▸ hi) (h.len ▸ hj), mbs_sym h9 h, fun z => by omega, fun z => by omega⟩
theorem MatOk.own {kd way : Int} {n m : Nat} {L C : List (List Rat)} {ds : List Rat} (h9 : N9 kd n) (lC : C.length = n) (mn : m ≤ n) (hC : ∀ r ∈ C, r.length = m ∧ ∀ q ∈ r, Pl kd q) (w : way = 3) : MatOk kd way n L ds (gramR C) := by
  have l : (gramR C).length = C.length := by unfold gramR; rw [List.length_map]
  refine ⟨gram_sq (by have := h9.1; omega), by rw [l, lC], fun i j hi hj => ?_, mbs_gram h9 lC mn hC, fun z => by omega, fun z => by omega⟩
  rw [l] at hi hj
  rw [gram_ad hi hj, gram_ad hj hi, dotR_comm]
theorem twice_q (q : Rat) : Rat.divInt (2 * q.num) (q.den : Int) = 2 * q := by
  refine div_is (den_ne q) ?_
  have e := q_eq q
  rw [Rat.intCast_mul, ← e]
  grind
theorem same_word {b b3 : Bool} {p p3 : Prop} (h : b = true ↔ p) (h3 : b3 = true ↔ p3) (e : p3 ↔ p) : b3 = b := by
  have : b3 = true ↔ b = true := h3.trans (e.trans h.symm)
  cases b <;> cases b3 <;> simp_all
def spLaw (K : PySem.W.Frag) : Sp := fun vs H Q _ => ∃ (a : Addr) (ns : List Int), vs = [.ref a] ∧ SqL K H a (ns.map V.int) ∧ ns.length ≤ 63 ∧ ∀ H', Q (.bl true) H'
section
variable {P : Program} {w : World} {K : PySem.W.Frag} {mg : Str → Option Value} {base : Heap}
theorem sc_law : FnScope ["_law_script", "_law_at", "_law_cell", "_law_well_here", "_law_way", "_law_kind", "_law_many", "_law_lower_here", "_law_pivots_here", "_law_matrix", "_law_handed", "_law_told", "_law_double", "_law_row", "_law_place_here"] ["_law_script"] (defScope s_law) := ⟨rfl, rfl, rfl, by decide +kernel, rfl, by decide +kernel, by decide +kernel⟩
theorem ok_law {f : Addr} {fd : FuncData} (F : Fun K "law" "law" s_law f fd) (z : Zs mg) (c__law_cell_at : Cal P w K mg base 1 "_law_cell_at" ["_law_script", "_law_k"] (spCell K)) (c__law_well : Cal P w K mg base 1 "_law_well" ["_law_cell"] spWell) (c__law_draw : Cal P w K mg base 1 "_law_draw" ["_law_well_here", "_law_many"] spDraw) (c__law_one : Cal P w K mg base 2 "_law_one" ["_law_well_here", "_law_some"] spOne) (c__law_lower : Cal P w K mg base 3 "_law_lower" ["_law_well_here", "_law_many", "_law_kind"] spLower) (c__law_pivots : Cal P w K mg base 3 "_law_pivots" ["_law_well_here", "_law_many", "_law_kind", "_law_way"] spPivs) (c__law_of : Cal P w K mg base 4 "_law_of" ["_law_lower_here", "_law_pivots_here"] (spOf K)) (c__law_square : Cal P w K mg base 3 "_law_square" ["_law_well_here", "_law_many", "_law_kind"] spSquare) (c__law_own : Cal P w K mg base 4 "_law_own" ["_law_well_here", "_law_many", "_law_kind"] spOwn) (c_signs : Cal P w K mg base 9 "signs" ["matrix"] (spSignsOf K)) (c__law_right : Cal P w K mg base 5 "_law_right" ["_law_matrix", "_law_told"] (spRight K)) (c__law_beside : Cal P w K mg base 1 "_law_beside" ["_law_matrix"] spBeside) (c__law_low : Cal P w K mg base 1 "_law_low" ["_law_top", "_law_bottom"] spLowP) : FnOk P w K mg base CX0 10 f fd ["_law_script"] (spLaw K) := by
  refine F.ok sc_law (fun vs H Q E h => ?_) (fun cdv A outer s H vs Q E hr h => ?_)
  · obtain ⟨a, ns, rfl, _⟩ := h
    rfl
  · obtain ⟨a, ns, rfl, hS, hn, q_⟩ := h
    refine ⟨_, (pss_cons (ps_for PassesOwn.never rfl (pi_enum (by rfl) z.enumerate (pa_cons (pe_op op_cat (pe_lst (pa_cons (pe_cal c__law_cell_at hr (pa_cons (pv 0) (pa_cons pe_int pa_nil))) pa_nil)) (pe_slice sl_list (pv 0) (po_some pe_int) (po_some pe_int))) pa_nil)) (pg_tup (by rfl) (pgs_cons (pg_name (i := 1) sc_law.nd rfl (.inl rfl)) (pgs_cons (pg_name (i := 2) sc_law.nd rfl (.inl rfl)) pgs_nil))) (pss_cons (ps_set (i := 3) sc_law.nd rfl (.inl rfl) (pe_cal c__law_well hr (pa_cons (pv 2) pa_nil)))
      (pss_cons (ps_set (i := 4) sc_law.nd rfl (.inl rfl) (pe_cal c__law_draw hr (pa_cons (pv 3) (pa_cons pe_int pa_nil))))
      (pss_cons (ps_set (i := 5) sc_law.nd rfl (.inl rfl) (pe_op op_fdiv (pe_cal c__law_draw hr (pa_cons (pv 3) (pa_cons pe_int pa_nil))) pe_int))
      (pss_cons (ps_set (i := 6) sc_law.nd rfl (.inl rfl) (pe_cal c__law_one hr (pa_cons (pv 3) (pa_cons (pe_lst (pa_cons pe_int (pa_cons pe_int (pa_cons pe_int (pa_cons pe_int (pa_cons pe_int (pa_cons pe_int pa_nil))))))) pa_nil))))
      (C8.pss_cut (ps_if (PW.pt (pw_and (pt_cmpR op_eq (pv 1) pe_int (nomark _)) (pw_and (pt_cmpR op_eq (pv 5) pe_int (nomark _)) (pw_and1 (pt_cmpR op_eq (pe_cal c__law_draw hr (pa_cons (pv 3) (pa_cons pe_int pa_nil))) pe_int (nomark _)))))) (pss_one (ps_set (i := 6) sc_law.nd rfl (.inl rfl) (pe_cal c__law_one hr (pa_cons (pv 3) (pa_cons (pe_lst (pa_cons pe_int (pa_cons pe_int (pa_cons pe_int pa_nil)))) pa_nil))))) pss_nil)
      (pss_cons (ps_set (i := 7) sc_law.nd rfl (.inl rfl) (pe_cal c__law_lower hr (pa_cons (pv 3) (pa_cons (pv 6) (pa_cons (pv 5) pa_nil)))))
      (pss_cons (ps_set (i := 8) sc_law.nd rfl (.inl rfl) (pe_cal c__law_pivots hr (pa_cons (pv 3) (pa_cons (pv 6) (pa_cons (pv 5) (pa_cons (pv 4) pa_nil))))))
      (pss_cons (ps_set (i := 9) sc_law.nd rfl (.inl rfl) (pe_cal c__law_of hr (pa_cons (pv 7) (pa_cons (pv 8) pa_nil))))
      (C8.pss_cut (ps_if (pt_cmpR op_eq (pv 4) pe_int (nomark _)) (pss_one (ps_set (i := 9) sc_law.nd rfl (.inl rfl) (pe_cal c__law_square hr (pa_cons (pv 3) (pa_cons (pv 6) (pa_cons (pv 5) pa_nil)))))) pss_nil)
      (C8.pss_cut (ps_if (pt_cmpR op_eq (pv 4) pe_int (nomark _)) (pss_one (ps_set (i := 9) sc_law.nd rfl (.inl rfl) (pe_cal c__law_own hr (pa_cons (pv 3) (pa_cons (pv 6) (pa_cons (pv 5) pa_nil)))))) pss_nil)
      (pss_cons (ps_setLc (i := 10) (own := [("_law_row", 13)]) (g := gName 13) (tt := tYes) (te := (tCB (fun xs H Q => ∃ p ys, xs = [V.ref p] ∧ (SqL K H p ys ∨ SqT K H p ys) ∧ ∀ l, H l = none → Q (.ref l) (upd H l (.lst ys))) (tCons (tVar 13) tNil))) (by rfl) sc_law.nd rfl rfl (sw_true rfl rfl rfl (by decide +kernel)) (pi_list (pv 9)) (blkOk_by (own := [("_law_row", 13)]) (N := ["_law_script", "_law_at", "_law_cell", "_law_well_here", "_law_way", "_law_kind", "_law_many", "_law_lower_here", "_law_pivots_here", "_law_matrix", "_law_handed", "_law_told", "_law_double", "_law_row", "_law_place_here"]) (sc := defScope s_law) (by decide +kernel)) (fun _ _ _ _ _ => by exact (pg_name (i := 13) sc_law.nd rfl (.inl rfl))) (fun _ _ _ _ _ => by exact pts_nil) (fun _ _ _ _ _ => by exact (pe_callTy call_list_of (by rfl) z.list (by decide +kernel) (pa_cons (pv 13) pa_nil))))
      (pss_cons (ps_set (i := 11) sc_law.nd rfl (.inl rfl) (pe_cal c_signs hr (pa_cons (pv 10) pa_nil)))
      (pss_cons (ps_if (PW.pt (pw_or (pt_not (pt_val (pe_cal c__law_right hr (pa_cons (pv 9) (pa_cons (pv 11) pa_nil))))) (pw_or1 (pt_cmpR (op_neD hr.units) (pv 10) (pv 9) (nomark _))))) (pss_one (ps_ret pe_bl)) pss_nil)
      (C8.pss_cut (ps_if (PW.pt (pw_or (PW.pt (pw_and (pt_cmpR op_eq (pv 4) pe_int (nomark _)) (pw_and1 (pt_cmpR (op_neD hr.units) (pv 11) (pe_tup (pa_cons pe_str (pa_cons (pv 7) (pa_cons (pv 8) pa_nil)))) (nomark _))))) (pw_or1 (PW.pt (pw_and (pt_cmpR op_eq (pv 4) pe_int (nomark _)) (pw_and (pt_cmpR op_gt (pv 6) pe_int (nomark _)) (pw_and1 (pt_cmpR op_ne (pe_ix ix_tup (pv 11) pe_int (fun _ _ => rfl)) pe_str (nomark _))))))))) (pss_one (ps_ret pe_bl)) pss_nil)
      (pss_cons (ps_set (i := 5) sc_law.nd rfl (.inl rfl) (pe_ix ix_tup (pv 11) pe_int (fun _ _ => rfl)))
      (pss_cons (ps_expr (pe_bm PySem.F.plainAttrs_list PySem.F.slot_list_append PySem.F.type_list_append mt_append (pe_ix ix_tup (pv 11) pe_int (fun _ _ => rfl)) (pa_cons pe_int pa_nil)))
      (pss_cons (ps_if (PW.pt (pw_or (pt_not (pt_val (pe_cal c__law_right hr (pa_cons (pv 9) (pa_cons (pe_cal c_signs hr (pa_cons (pv 10) pa_nil)) pa_nil))))) (pw_or1 (pt_cmpR op_ne (pe_ix ix_tup (pe_cal c_signs hr (pa_cons (pe_cal c__law_beside hr (pa_cons (pv 9) pa_nil)) pa_nil)) pe_int (fun _ _ => rfl)) (pv 5) (nomark _))))) (pss_one (ps_ret pe_bl)) pss_nil)
      (pss_cons (ps_setLc (i := 12) (own := [("_law_row", 13)]) (g := gName 13) (tt := tYes) (te := (tLc (iList K (tVar 13)) (gName 14) tYes (tCall spLowP [] E0 (tCons (tOp (rI CMulW fun i j => V.int (i * j)) (tC (.int 2)) (tOp (rIxT K) (tVar 14) (tC (.int 0)))) (tCons (tOp (rIxT K) (tVar 14) (tC (.int 1))) tNil))) (([("_law_place_here", 14)] : List (Str × Nat)).map (·.2)))) (by rfl) sc_law.nd rfl rfl (sw_true rfl rfl rfl (by decide +kernel)) (pi_list (pv 9)) (blkOk_by (own := [("_law_row", 13)]) (N := ["_law_script", "_law_at", "_law_cell", "_law_well_here", "_law_way", "_law_kind", "_law_many", "_law_lower_here", "_law_pivots_here", "_law_matrix", "_law_handed", "_law_told", "_law_double", "_law_row", "_law_place_here"]) (sc := defScope s_law) (by decide +kernel)) (fun _ _ _ _ _ => by exact (pg_name (i := 13) sc_law.nd rfl (.inl rfl))) (fun _ _ _ _ _ => by exact pts_nil) (fun _ _ _ _ _ => by exact (@pe_lc _ _ _ _ _ _ _ _ _ _ _ _ (by rfl) sc_law.nd (pi_list (pv 13)) (blkOk_by (own := [("_law_place_here", 14)]) (N := ["_law_script", "_law_at", "_law_cell", "_law_well_here", "_law_way", "_law_kind", "_law_many", "_law_lower_here", "_law_pivots_here", "_law_matrix", "_law_handed", "_law_told", "_law_double", "_law_row", "_law_place_here"]) (sc := ({ kind := PySem.ScopeKind.function, names := [(".0", .local), ("_law_row", .local)], isGenerator := false, isCoroutine := false, more := [] })) (by decide +kernel)) (fun _ _ _ _ _ => by exact (pg_name (i := 14) sc_law.nd rfl (.inl rfl))) (fun _ _ _ _ _ => by exact pts_nil) (fun _ _ _ _ _ => by exact (pe_cal c__law_low hr (pa_cons (pe_op op_mulW pe_int (pe_ix ix_tup (pv 14) pe_int (fun _ _ => rfl))) (pa_cons (pe_ix ix_tup (pv 14) pe_int (fun _ _ => rfl)) pa_nil)))) (by intro _; rfl))))
      (pss_one (ps_if (PW.pt (pw_or (pt_cmpR op_ne (pe_ix ix_tup (pe_cal c_signs hr (pa_cons (pv 12) pa_nil)) pe_int (fun _ _ => rfl)) (pv 5) (nomark _)) (pw_or1 (pt_not (pt_val (pe_cal c__law_right hr (pa_cons (pv 12) (pa_cons (pe_cal c_signs hr (pa_cons (pv 12) pa_nil)) pa_nil)))))))) (pss_one (ps_ret pe_bl)) pss_nil)))))))))))))))))))))
      (pss_one (ps_ret (pe_cmpR (op_eqD hr.units) (pe_cal c_signs hr (pa_cons (pe_lst pa_nil) pa_nil)) (pe_tup (pa_cons pe_str (pa_cons (pe_lst pa_nil) (pa_cons (pe_lst pa_nil) pa_nil)))) (nomark _))))), ?_⟩
    obtain ⟨cs, hcs⟩ := cut_ints ns (some 1) (some 6)
    have hcl := cutV_length (ns.map V.int) (some 1) (some 6)
    rw [List.length_map] at hcl
    refine ⟨_, rfl, a, ns, 0, rfl, hS, (by show 1 ≤ sizeLine; decide), fun l0 h0 => ?_⟩
    have s0 := same_new (o := .lst [V.int (ns.getD 0 0)]) h0
    refine ⟨_, rfl, _, rfl, _, rfl, a, _, rfl, s0.seq hS, fun l1 h1 => ?_⟩
    rw [hcs]
    rw [hcs, List.length_map] at hcl
    have s1 := same_new (o := .lst (cs.map V.int)) h1
    refine ⟨l0, l1, _, _, rfl, rfl, s1 _ _ upd_same, upd_same, Nat.le_trans (show 1 + (cs.map V.int).length ≤ 1000 by rw [List.length_map]; omega) (by decide), fun L hL => ?_⟩
    have eL : [V.int (ns.getD 0 0)] ++ cs.map V.int = (ns.getD 0 0 :: cs).map V.int := rfl
    rw [eL]
    clear eL
    refine ⟨L, _, rfl, SqL.of upd_same, ?_⟩
    refine for_it (walk_enum (K := K) (a := L) (xs := (ns.getD 0 0 :: cs).map V.int)) (fun i σ G => G L = some (.lst ((ns.getD 0 0 :: cs).map V.int)) ∧ ∃ y1 y2 y3 y4 y5 y6 y7 y8 y9 y10 y11 y12 y13 y14 : Option V, σ = [some (.ref a), y1, y2, y3, y4, y5, y6, y7, y8, y9, y10, y11, y12, y13, y14]) ⟨upd_same, none, none, none, none, none, none, none, none, none, none, none, none, none, none, rfl⟩ (fun i σ G _ hP => SqL.of hP.1) (fun i x σ G G' hi hP hY => ?_) (fun σ G hP => ?_)
    · obtain ⟨l00, y1, y2, y3, y4, y5, y6, y7, y8, y9, y10, y11, y12, y13, y14, rfl⟩ := hP
      obtain ⟨Tq, u, v2, rfl, nT, rfl, e2, e3⟩ := hY
      dsimp only at e2 e3
      cases e2
      rw [List.getElem?_map] at e3
      obtain ⟨cell, _, rfl⟩ := Option.map_eq_some_iff.mp e3
      generalize (ns.getD 0 0 :: cs).map V.int = cells at *
      have sN := same_new (o := .tup [.int ((i : Nat) : Int), .int cell]) nT
      have hTq : (upd G Tq (.tup [.int ((i : Nat) : Int), .int cell])) Tq = some (.tup [.int ((i : Nat) : Int), .int cell]) := upd_same
      have l01 := sN _ _ l00
      generalize upd G Tq _ = G0 at sN hTq l01 ⊢
      refine ⟨Tq, _, rfl, SqT.of hTq, rfl, _, _, rfl, _, _, rfl, rfl, ?_⟩
      refine ⟨_, rfl, cell, rfl, fun ww hp H1 s1 w1 => ?_⟩
      refine ⟨_, rfl, ww, 0, 4, rfl, w1, by omega, by decide, small9000 (by decide) (by decide), fun way H2 way0 way1 d2 f2 w2 => ?_⟩
      refine ⟨_, rfl, ww, 0 + 1, 3, rfl, w2, by omega, by decide, small9000 (by decide) (by decide), fun r3 H3 r30 r31 d3 f3 w3 => ⟨_, _, rfl, rfl, ⟨by decide, by decide⟩, ?_⟩⟩
      refine ⟨_, rfl, (by show 6 ≤ sizeLine; decide), fun l6 hl6 => ?_⟩
      have s6 := same_new (o := .lst [.int 2, .int 3, .int 1, .int 4, .int 0, .int 2]) hl6
      refine ⟨ww, l6, 0 + 1 + 1, _, rfl, w3.same s6, by omega, w3.ne hl6, upd_same, (by show 0 < 6; decide), (by show 6 ≤ 1000; decide), fun v hv H7 d7 f7 w7 => ?_⟩
      obtain ⟨n, rfl, hn4⟩ : ∃ n : Nat, v = .int (n : Nat) ∧ n ≤ 4 := by
        simp only [List.mem_cons, List.not_mem_nil, or_false] at hv
        rcases hv with rfl | rfl | rfl | rfl | rfl | rfl
        · exact ⟨2, rfl, by decide⟩
        · exact ⟨3, rfl, by decide⟩
        · exact ⟨1, rfl, by decide⟩
        · exact ⟨4, rfl, by decide⟩
        · exact ⟨0, rfl, by decide⟩
        · exact ⟨2, rfl, by decide⟩
      have S7 : Same G0 H7 := same_but (same_but (same_but s1 d2 hp) d3 hp |>.trans s6) d7 hp
      have w7 : WellAt H7 ww 5 := w7.mono (by omega)
      clear d2 f2 w2 d3 f3 w3 s6 d7 f7 hl6 hv w1 s1
      refine ⟨fun σ' H' => ∃ n : Nat, σ' = [some (.ref a), some (.int ((i : Nat) : Int)), some (.int cell), some (.ref ww), some (.int way), some (.int (r3 / 2)), some (.int (n : Nat)), y7, y8, y9, y10, y11, y12, y13, y14] ∧ Same G0 H' ∧ WellAt H' ww 10 ∧ N9 (r3 / 2) n, ?_, fun σ' H' hM => ?_⟩
      · have base : ∀ H', Same G0 H' → WellAt H' ww 6 → ∃ m : Nat, [some (.ref a), some (.int ((i : Nat) : Int)), some (.int cell), some (.ref ww), some (.int way), some (.int (r3 / 2)), some (.int (n : Nat)), y7, y8, y9, y10, y11, y12, y13, y14] = [some (.ref a), some (.int ((i : Nat) : Int)), some (.int cell), some (.ref ww), some (.int way), some (.int (r3 / 2)), some (.int (m : Nat)), y7, y8, y9, y10, y11, y12, y13, y14] ∧ Same G0 H' ∧ WellAt H' ww 10 ∧ N9 (r3 / 2) m := fun H' s w => ⟨n, rfl, s, w.mono (by omega), by omega, fun _ => hn4⟩
        refine ⟨_, rfl, rfl, _, rfl, ite2 (fun c1 => ?_) (fun c1 => iteF (base _ S7 (w7.mono (by omega))))⟩
        refine ⟨_, rfl, rfl, _, rfl, ite2 (fun c2 => ?_) (fun c2 => iteF (base _ S7 (w7.mono (by omega))))⟩
        have k0 : (r3 / 2) = 0 := V.int.inj (toB c2)
        refine ⟨_, rfl, ww, 5, 4, rfl, w7, by omega, by decide, small9000 (by decide) (by decide), fun r8 H8 r80 r81 d8 f8 w8 => ?_⟩
        have S8 := same_but S7 d8 hp
        refine ⟨rfl, _, rfl, ite2 (fun c3 => ?_) (fun c3 => (base _ S8 w8))⟩
        refine ⟨_, rfl, (by show 3 ≤ sizeLine; decide), fun l6 hl6 => ?_⟩
        have s6 := same_new (o := .lst [.int 5, .int 7, .int 9]) hl6
        refine ⟨ww, l6, 5 + 1, _, rfl, w8.same s6, by omega, w8.ne hl6, upd_same, (by show 0 < 3; decide), (by show 3 ≤ 1000; decide), fun v hv H9 d9 f9 w9 => ?_⟩
        obtain ⟨m, rfl, hm⟩ : ∃ n : Nat, v = .int (n : Nat) ∧ n ≤ 9 := by
          simp only [List.mem_cons, List.not_mem_nil, or_false] at hv
          rcases hv with rfl | rfl | rfl
          · exact ⟨5, rfl, by decide⟩
          · exact ⟨7, rfl, by decide⟩
          · exact ⟨9, rfl, by decide⟩
        exact ⟨m, rfl, same_but (S8.trans s6) d9 hp, w9.mono (by omega), hm, fun h => absurd k0 h⟩
      obtain ⟨n, rfl, S7, w7, n9⟩ := hM
      have nk := n9.k
      have n10 := nk.1
      refine ⟨_, rfl, _, rfl, _, rfl, ww, 10, (r3 / 2), n, rfl, w7, by omega, n10, fun l_ us1 L Ha hpa d1 w1 el sL low => ?_⟩
      have S1 := same_but S7 d1 hp
      refine ⟨_, rfl, _, rfl, _, rfl, _, rfl, ww, _, (r3 / 2), way, n, rfl, w1, by omega, n10, fun d_ ds Hb hpb d2 w2 fd ld pd pos neg => ?_⟩
      have S2 := same_but S1 d2 hp
      have nl := sL.nw el w1
      have el2 := d2 _ _ nl el
      have sL2 := sL.well d2 w1
      have ok0 := MatOk.of n9 low ld pd pos neg
      refine ⟨_, rfl, _, rfl, l_, d_, us1, L, ds, 1000, 1000, rfl, el2, sL2, fd.k, (mbs_of n9 low ld pd).2, fun m_ vs1 Hc hpc s3 em sA => ?_⟩
      have S3 := S2.trans s3
      have w3 := w2.same s3
      have el3 := s3 _ _ el2
      have sL3 := sL2.same s3
      have fd3 := fd.same s3
      clear S1 S2 S7 w7 w1 w2 el el2 sL sL2 fd d1 d2
      refine ⟨fun σ' H' => ∃ (b : Addr) (ws : List V) (A : List (List Rat)), σ' = [some (.ref a), some (.int ((i : Nat) : Int)), some (.int cell), some (.ref ww), some (.int way), some (.int (r3 / 2)), some (.int (n : Nat)), some (.ref l_), some (.ref d_), some (.ref b), y10, y11, y12, y13, y14] ∧ Same G0 H' ∧ WellAt H' ww 800 ∧ (H' b = some (.lst ws) ∧ SeL H' ws A) ∧ MatOk (r3 / 2) way n L ds A ∧ H' l_ = some (.lst us1) ∧ SeL H' us1 L ∧ FrL H' d_ ds, ?_, fun σ' H' hM => ?_⟩
      · refine ⟨_, rfl, rfl, _, rfl, ite2 (fun c1 => ?_) (fun c1 => ⟨m_, vs1, _, rfl, S3, w3.mono (by omega), ⟨em, sA⟩, ok0, el3, sL3, fd3⟩)⟩
        have wz : way = 2 := V.int.inj (toB c1)
        refine ⟨_, rfl, _, rfl, _, rfl, ww, _, (r3 / 2), n, rfl, w3, by omega, n10, fun p us A X hpX dX wX eX sX sp => ?_⟩
        exact ⟨p, us, A, rfl, same_but S3 dX hp, wX.mono (by omega), ⟨eX, sX⟩, MatOk.square n9 sp wz, dX _ _ nl el3, sL3.well dX w3, fd3.well dX w3 (fd3.nw w3)⟩
      obtain ⟨m1_, ws1, A1, rfl, S4, w4, ⟨em1, sA1⟩, ok1, el4, sL4, fd4⟩ := hM
      have nm1 := sA1.nw em1 w4
      clear S3 w3 el3 sL3 fd3 em sA
      refine ⟨fun σ' H' => ∃ (b : Addr) (ws : List V) (A : List (List Rat)), σ' = [some (.ref a), some (.int ((i : Nat) : Int)), some (.int cell), some (.ref ww), some (.int way), some (.int (r3 / 2)), some (.int (n : Nat)), some (.ref l_), some (.ref d_), some (.ref b), y10, y11, y12, y13, y14] ∧ Same G0 H' ∧ (H' b = some (.lst ws) ∧ SeL H' ws A) ∧ MatOk (r3 / 2) way n L ds A ∧ H' l_ = some (.lst us1) ∧ SeL H' us1 L ∧ FrL H' d_ ds, ?_, fun σ' H' hM => ?_⟩
      · refine ⟨_, rfl, rfl, _, rfl, ite2 (fun c1 => ?_) (fun c1 => ⟨m1_, ws1, A1, rfl, S4, ⟨em1, sA1⟩, ok1, el4, sL4, fd4⟩)⟩
        have wz : way = 3 := V.int.inj (toB c1)
        refine ⟨_, rfl, _, rfl, _, rfl, ww, _, (r3 / 2), n, rfl, w4, by omega, nk, fun p us C m X hpX dX wX eX sX lC mn hC => ?_⟩
        exact ⟨p, us, _, rfl, same_but S4 dX hp, ⟨eX, sX⟩, MatOk.own n9 lC mn hC wz, dX _ _ nl el4, sL4.well dX w4, fd4.well dX w4 (fd4.nw w4)⟩
      obtain ⟨a1_, ws, A, rfl, S5, ⟨ea, sA⟩, ok, el5, sL5, fd5⟩ := hM
      clear S4 w4 el4 sL4 fd4 em1 sA1 ok1 nm1 ok0
      have lA := ok.len
      subst lA
      have sz := ok.sz n9
      have gd := sz.gd ok.sq ok.sym
      have n10 := ok.sq.1
      have lw := sA.1
      refine ⟨_, rfl, a1_, rfl, ⟨_, SqL.of ea⟩, fun P hP => lc_list (K := K) (a := a1_) (xs := ws) (fun i X => Same H' X ∧ ∃ vs, X P = some (.lst vs) ∧ (∀ v ∈ vs, v ≠ .ref P) ∧ SeL X vs (A.take i)) ⟨same_new hP, [], upd_same, (fun v hv => absurd hv List.not_mem_nil), ⟨rfl, fun i r e => by rw [List.take_zero] at e; cases e⟩⟩ (fun i X _ hQ => SqL.of (hQ.1 _ _ ea)) (fun i x X hx hQ => ?_) (fun X hQ => ?_)⟩
      · obtain ⟨sX, vs, eP, nvs, sv⟩ := hQ
        obtain ⟨b, r, rfl, hr2, fb⟩ := sA.get hx
        have li := (List.getElem?_eq_some_iff.mp hr2).1
        obtain ⟨rs9, hb, lb, fb2⟩ := (fb.same sX).len
        refine ⟨rfl, _, rfl, b, rs9, rfl, .inl (SqL.of hb), fun q hq => ?_⟩
        have s3 := same_new (o := .lst rs9) hq
        have nq : q ≠ P := fun e => by
          rw [e, eP] at hq
          cases hq
        have lv := sv.1
        rw [List.length_take] at lv
        refine ⟨_, s3 _ _ eP, small1000 (by omega), fun b o e => ?_, vs ++ [.ref q], upd_same, fun v hv => ?_, ?_⟩
        · rw [upd_ne (ne_of_none e hP)]
          exact s3 _ _ (sX _ _ e)
        · rcases List.mem_append.mp hv with h | h
          · exact nvs v h
          · rw [List.mem_singleton.mp h]
            exact fun z => nq (V.ref.inj z)
        · rw [show A.take (i + 1) = A.take i ++ [r] by rw [List.take_succ, hr2]; rfl]
          have fq : FrL (upd X q (.lst rs9)) q r := ⟨_, upd_same, PrsAt.same fb2 s3⟩
          exact SeL.app ((sv.same s3).butN (s3 _ _ eP) nvs SameBut.upd) (SeL.one (fq.but nq SameBut.upd (s3 _ _ eP)))
      obtain ⟨sX, vs, eP, nvs, sv⟩ := hQ
      rw [List.take_of_length_le (by omega)] at sv
      have S6 := S5.trans sX
      refine ⟨_, rfl, ?_⟩
      try dsimp only [tNil, List.cons_append, List.nil_append]
      refine signs_use eP sv gd fun t q b G2 hq s2 tg => ?_
      have S8 := sX.trans s2
      refine ⟨_, rfl, _, rfl, ?_⟩
      try dsimp only [tNil, List.cons_append, List.nil_append]
      refine right_use (S8 _ _ ea) (sA.same S8) gd sz tg fun G3 s3 => ⟨_, rfl, iteF ?_⟩
      have S9 := S8.trans s3
      have Z3 := s2.trans s3
      refine ⟨_, rfl, _, rfl, .list (llD A), .list (llD A), .lst (SqL.of (Z3 _ _ eP)) (sv.same Z3).dpAll, .lst (SqL.of (S9 _ _ ea)) (sA.same S9).dpAll, ll_shaped _, ll_shaped _, _, rfl, ?_⟩
      rw [ll_eqv]
      refine iteF ?_
      have tg3 := tg.same s3
      have tgB := tg.abo ok.sym
      have sX3 := S9
      have el6 := S9 _ _ el5
      have sL6 := sL5.same S9
      have fd6 := fd5.same S9
      refine ⟨fun σ' H' => σ' = [some (.ref a), some (.int ((i : Nat) : Int)), some (.int cell), some (.ref ww), some (.int way), some (.int (r3 / 2)), some (.int (A.length : Nat)), some (.ref l_), some (.ref d_), some (.ref a1_), some (.ref P), some (.ref t), y12, y13, y14] ∧ Same G3 H', ?_, fun σ' H' hM => ?_⟩
      · skip
        refine ⟨_, rfl, rfl, _, rfl, ite2 (fun c => ?_) (fun c => ?_)⟩
        · have wz : way = 0 := V.int.inj (toB c)
          obtain ⟨e1, e2, ab⟩ := ok.d0 wz
          have bt := (tg3.abo ok.sym).mpr ab
          subst bt
          rcases tg3 with ⟨_, d3, us3, h1, h2, h3, h4, h5⟩ | ⟨z, _⟩
          · rw [e1] at h3
            rw [e2] at h4
            refine ⟨_, rfl, _, rfl, _, rfl, (by show 3 ≤ sizeLine; decide), fun tt htt => ?_⟩
            have st := same_new (o := .tup [.str "above", .ref l_, .ref d_]) htt
            refine ⟨aD L ds, aD L ds, .tup (SqT.of (st _ _ h1)) (.cons (.str _) (.cons (.lst (SqL.of (st _ _ h2)) (h3.same st).dpAll) (.cons (h4.same st).dp .nil))), .tup (SqT.of upd_same) (.cons (.str _) (.cons (.lst (SqL.of (st _ _ el6)) (sL6.same st).dpAll) (.cons (fd6.same st).dp .nil))), aD_shaped L ds, aD_shaped L ds, _, rfl, ?_⟩
            rw [SeqAt.eqv_refl _ (SeqAt.canLay_of_shaped (aD_shaped L ds))]
            refine iteF ?_
            exact ⟨_, rfl, rfl, _, rfl, iteC (d := false) (decide_eq_false fun e => by have := V.int.inj e; omega) (iteF (iteF ⟨rfl, st⟩))⟩
          · cases z
        · refine iteF ?_
          refine ⟨_, rfl, rfl, _, rfl, ite2 (fun c1 => ?_) (fun c1 => iteF ⟨rfl, fun _ _ h => h⟩)⟩
          have wz : way = 1 := V.int.inj (toB c1)
          refine ⟨_, rfl, _, _, rfl, rfl, _, rfl, ite2 (fun c2 => ?_) (fun c2 => iteF ⟨rfl, fun _ _ h => h⟩)⟩
          have n0 : 0 < A.length := by
            have := toB c2
            omega
          have bf : b = false := by
            cases b with
            | false => rfl
            | true => exact absurd ((tg3.abo ok.sym).mp rfl) (ok.d1 wz n0)
          subst bf
          obtain ⟨rest, et⟩ := tg3.at
          exact ⟨_, rfl, t, _, 0, .str "not", rfl, rfl, SqT.of et, a0, rfl, _, rfl, iteC (d := false) (by decide +kernel) (iteF ⟨rfl, fun _ _ h => h⟩)⟩
      obtain ⟨rfl, s4⟩ := hM
      obtain ⟨rest, et⟩ := (tg3.same s4).at
      obtain ⟨uq, eq, luq⟩ := (tg3.same s4).lst
      refine ⟨_, rfl, t, _, 0, wordV b, rfl, rfl, SqT.of et, a0, ?_⟩
      refine ⟨_, rfl, t, _, 1, .ref q, rfl, rfl, SqT.of et, a1, .inl ⟨rfl, _, SqL.of eq⟩, ?_⟩
      refine ⟨q, uq, _, rfl, rfl, eq, small1000 (by omega), ?_⟩
      have S16 : Same X (upd H' q (.lst (uq ++ [.int 7]))) := fun b o e => by
        rw [upd_ne (ne_of_none e hq)]
        exact s4 _ _ (Z3 _ _ e)
      generalize upd H' q (.lst (uq ++ [.int 7])) = G6 at *
      have ea6 := S16 _ _ (sX _ _ ea)
      have sA6 := (sA.same sX).same S16
      have eP6 := S16 _ _ eP
      have sv6 := sv.same S16
      have l6 := S16 _ _ (S6 _ _ l01)
      clear tg3 tg sX3 el6 sL6 fd6 s4 eq et Z3 S8 S9 s3 s2 hq
      refine ⟨_, rfl, _, rfl, ?_⟩
      try dsimp only [tNil, List.cons_append, List.nil_append]
      refine signs_use eP6 sv6 gd fun t2 q2 b2 G7 hq7 s7 tg7 => ?_
      try dsimp only [tNil, List.cons_append, List.nil_append]
      refine right_use (s7 _ _ ea6) (sA6.same s7) gd sz tg7 fun G8 s8 => ⟨_, rfl, iteF ?_⟩
      have S78 := s7.trans s8
      refine ⟨_, rfl, a1_, ws, A, rfl, S78 _ _ ea6, sA6.same S78, n10, fun r hr => by rw [ok.sq.2 r hr]; exact n10, fun pb usb G9 hpb s9 eb sB => ?_⟩
      try dsimp only [tNil, List.cons_append, List.nil_append]
      have sqB := bes_sq ok.sq n9.1
      have syB := bes_sym ok.sq ok.sym
      have gdB : GdM (besR A) := gd_of sqB syB (bes_mbs ok.mb) (by rw [bes_len]; exact beside_size n9)
      refine signs_use eb sB gdB fun t3 q3 b3 Ga hqa sa tga => ?_
      obtain ⟨rest3, et3⟩ := tga.at
      have eb3 : b3 = b := same_word tgB (tga.abo syB) (by rw [bes_len]; exact bes_abo ok.sq)
      subst eb3
      refine ⟨t3, _, 0, wordV b3, rfl, rfl, SqT.of et3, a0, _, rfl, scal_word _, _, rfl, iteNT rfl ?_⟩
      have SA := S78.trans (s9.trans sa)
      have eaA := SA _ _ ea6
      have sAA := sA6.same SA
      have lA := SA _ _ l6
      clear ea6 sA6 l6 eP6 sv6 S78 s7 s8 s9 sa tga tg7 et3 hqa hq7 eb sB hpb gdB syB sqB
      refine ⟨_, rfl, a1_, rfl, ⟨_, SqL.of eaA⟩, fun P9 hP9 => lc_list (K := K) (a := a1_) (xs := ws) (fun i X => Same Ga X ∧ ∃ vs, X P9 = some (.lst vs) ∧ (∀ v ∈ vs, v ≠ .ref P9) ∧ SeL X vs (dblR (A.take i))) ⟨same_new hP9, [], upd_same, (fun v hv => absurd hv List.not_mem_nil), ⟨rfl, fun i r e => by rw [List.take_zero] at e; cases e⟩⟩ (fun i X _ hQ => SqL.of (hQ.1 _ _ eaA)) (fun i x Z hx hQ => ?_) (fun Z hQ => ?_)⟩
      · obtain ⟨sZ, vs9, e9, nv9, sv9⟩ := hQ
        obtain ⟨b, r, rfl, hr2, fb⟩ := sAA.get hx
        have li := (List.getElem?_eq_some_iff.mp hr2).1
        have mr := List.mem_of_getElem? hr2
        have wr := ok.sq.2 r mr
        obtain ⟨bs, hb, lb, fbs⟩ := (fb.same sZ).len
        obtain ⟨Dr, Dr0, Drl, hDr⟩ := ok.mb.row r mr
        have lv9 := sv9.1
        rw [dbl_len, List.length_take] at lv9
        refine ⟨rfl, _, rfl, b, rfl, ⟨_, SqL.of hb⟩, fun P8 hP8 => lc_list (K := K) (a := b) (xs := bs) (fun j Y => Same Z Y ∧ FrL Y P8 ((r.take j).map fun q => 2 * q)) ⟨same_new hP8, [], upd_same, by rw [List.take_zero]; exact .nil⟩ (fun j Y _ hQ2 => SqL.of (hQ2.1 _ _ hb)) (fun j x Y hx2 hQ2 => ?_) (fun Y hQ2 => ?_)⟩
        · obtain ⟨sY, w8, e8, f8⟩ := hQ2
          obtain ⟨p, q9, rfl, hq9, hp9⟩ := FrsAt.get fbs hx2
          have I9 : SqT K Y p [.int q9.num, .int (q9.den : Int)] := SqT.of (sY _ _ hp9)
          have bq9 := (hDr q9 (List.mem_of_getElem? hq9)).bq Dr0 (up Drl (show 600 ≤ 700 by decide)) (Nat.lt_of_le_of_lt (Nat.le_mul_of_pos_left _ (by decide)) (nN_small (r3 / 2)))
          have lj := (List.getElem?_eq_some_iff.mp hq9).1
          have l8 := FrsAt.len f8
          rw [List.length_map, List.length_take] at l8
          refine ⟨rfl, _, rfl, p, _, 0, .int q9.num, rfl, rfl, I9, a0, _, _, rfl, rfl, wide_mul (show (2 : Int).natAbs < 2 ^ 2 by decide) bq9.1 (by decide) (by decide) (by decide), _, rfl, p, _, 1, .int (q9.den : Int), rfl, rfl, I9, a1, _, _, rfl, den_ge q9, ?_, fun t8 ht8 => ?_⟩
          · rw [Int.natAbs_natCast]
            exact Nat.lt_trans bq9.2 (Nat.pow_lt_pow_right (by decide) (by decide))
          have st8 := same_new (o := .tup [.int (lowT (2 * q9.num) q9.den), .int (lowB (2 * q9.num) q9.den)]) ht8
          have e88 := st8 _ _ e8
          have n8 : t8 ≠ P8 := fun e => by
            rw [e, e8] at ht8
            cases ht8
          refine ⟨_, e88, small1000 (by omega), fun c o e => ?_, w8 ++ [.ref t8], upd_same, ?_⟩
          · rw [upd_ne (ne_of_none e hP8)]
            exact st8 _ _ (sY _ _ e)
          · rw [show r.take (j + 1) = r.take j ++ [q9] by rw [List.take_succ, hq9]; rfl, List.map_append]
            refine FrsAt.app (PrsAt.but (PrsAt.same f8 st8) SameBut.upd e88) (FrsAt.one ?_)
            have f1 : Fr (upd Y t8 (.tup [.int (lowT (2 * q9.num) q9.den), .int (lowB (2 * q9.num) q9.den)])) t8 (2 * q9) := Fr.low (t := 2 * q9.num) (b := (q9.den : Int)) (by have := den_ge q9; omega) (twice_q q9) upd_same
            show (upd (upd Y t8 _) P8 _) t8 = _
            rw [upd_ne n8]
            exact f1
        · obtain ⟨sY, f8⟩ := hQ2
          rw [List.take_of_length_le (by omega)] at f8
          have e9Y := sY _ _ e9
          have n89 : P8 ≠ P9 := fun e => by
            rw [e, e9] at hP8
            cases hP8
          refine ⟨_, e9Y, small1000 (by omega), fun c o e => ?_, vs9 ++ [.ref P8], upd_same, fun v hv => ?_, ?_⟩
          · rw [upd_ne (ne_of_none e hP9)]
            exact sY _ _ (sZ _ _ e)
          · rcases List.mem_append.mp hv with h | h
            · exact nv9 v h
            · rw [List.mem_singleton.mp h]
              exact fun z => n89 (V.ref.inj z)
          · rw [show A.take (i + 1) = A.take i ++ [r] by rw [List.take_succ, hr2]; rfl]
            unfold dblR at *
            rw [List.map_append]
            exact SeL.app ((sv9.same sY).butN e9Y nv9 SameBut.upd) (SeL.one (f8.but n89 SameBut.upd e9Y))
      obtain ⟨sZ, vs9, e9, nv9, sv9⟩ := hQ
      rw [List.take_of_length_le (by omega)] at sv9
      have sqD := dbl_sq ok.sq
      have syD : ∀ i j, i < (dblR A).length → j < (dblR A).length → ad (dblR A) i j = ad (dblR A) j i := fun i j hi hj => by
        rw [dbl_len] at hi hj
        rw [dbl_ad, dbl_ad, ok.sym i j hi hj]
      have szD : Sizes (2 * nN (r3 / 2)) (dblR A) := sizes_of (by rw [dbl_len]; exact n9) (.inr rfl) (dbl_mbs ok.mb (nN_small (r3 / 2)))
      have gdD := szD.gd sqD syD
      have lZ := sZ _ _ lA
      refine ⟨_, rfl, ?_⟩
      try dsimp only [tNil, List.cons_append, List.nil_append]
      refine signs_use e9 sv9 gdD fun t4 q4 b4 Gb hqb s10 tgb => ?_
      obtain ⟨rest4, et4⟩ := tgb.at
      have eb4 : b4 = b3 := same_word tgB (tgb.abo syD) (by rw [dbl_len]; exact dbl_abo)
      subst eb4
      refine ⟨t4, _, 0, wordV b4, rfl, rfl, SqT.of et4, a0, _, rfl, scal_word _, _, rfl, iteNT rfl ?_⟩
      refine ⟨_, rfl, _, rfl, ?_⟩
      try dsimp only [tNil, List.cons_append, List.nil_append]
      refine signs_use (s10 _ _ e9) (sv9.same s10) gdD fun t5 q5 b5 Gc hqc s11 tgc => ?_
      try dsimp only [tNil, List.cons_append, List.nil_append]
      refine right_use (s11 _ _ (s10 _ _ e9)) ((sv9.same s10).same s11) gdD szD tgc fun Gd s12 => ⟨_, rfl, iteF ?_⟩
      exact ⟨s12 _ _ (s11 _ _ (s10 _ _ lZ)), _, _, _, _, _, _, _, _, _, _, _, _, _, _, rfl⟩
    · obtain ⟨l00, y1, y2, y3, y4, y5, y6, y7, y8, y9, y10, y11, y12, y13, y14, rfl⟩ := hP
      refine ⟨(by show 0 ≤ sizeLine; decide), fun p1 g1 => ?_⟩
      have v1 := same_new (o := .lst []) g1
      have sq0 : Sq [] := ⟨by decide, fun r hr => absurd hr List.not_mem_nil⟩
      have mb0 : MBs 1 [] := ⟨by decide, Nat.lt_of_lt_of_le (show 1 < 2 ^ 1 by decide) (Nat.pow_le_pow_right (by decide) (by decide)), fun r hr => absurd hr List.not_mem_nil⟩
      have gd0 : GdM [] := gd_of sq0 (fun i j hi => absurd hi (Nat.not_lt_zero _)) mb0 (Nat.lt_of_lt_of_le (show (0 + 1) * (fac 0 * 1 ^ 0) < 2 ^ 1 by decide) (Nat.pow_le_pow_right (by decide) (by decide)))
      try dsimp only [tNil, List.cons_append, List.nil_append]
      refine signs_use (A := []) upd_same ⟨rfl, fun i r e => by cases e⟩ gd0 fun t q b H9 hq9 s9 tg => ?_
      rcases tg with ⟨rfl, d3, us3, h1, h2, h3, h4, h5⟩ | ⟨rfl, xs, k, h1, h2, h3, h4, h5⟩
      · refine ⟨(by show 0 ≤ sizeLine; decide), fun l2 hl2 => ⟨(by show 0 ≤ sizeLine; decide), fun l3 hl3 => ⟨(by show 3 ≤ sizeLine; decide), fun tt htt => ?_⟩⟩⟩
        have v2 := same_new (o := .lst []) hl2
        have v3 := same_new (o := .lst []) hl3
        have v4 := same_new (o := .tup [.str "above", .ref l2, .ref l3]) htt
        have V4 := v2.trans (v3.trans v4)
        refine ⟨aD [] [], aD [] [], .tup (SqT.of (V4 _ _ h1)) (.cons (.str _) (.cons (.lst (SqL.of (V4 _ _ h2)) (h3.same V4).dpAll) (.cons (h4.same V4).dp .nil))), .tup (SqT.of upd_same) (.cons (.str _) (.cons (.lst (SqL.of (v4 _ _ (v3 _ _ upd_same))) .nil) (.cons (.lst (SqL.of (v4 _ _ upd_same)) .nil) .nil))), aD_shaped _ _, aD_shaped _ _, ?_⟩
        rw [SeqAt.eqv_refl _ (SeqAt.canLay_of_shaped (aD_shaped [] []))]
        exact q_ _
      · exact absurd h4.lt (Nat.not_lt_zero _)
end
end E1

namespace E1
open PySem PySem.Spec PyProof.Rows L2
theorem all_mk {l : PySem.W.OpenLaw} {w : World} {K : PySem.W.Frag} {h : Heap} {mg : Str → Option Value} {fa : Addr} {A_ONE : Addr} {A_NOUGHT : Addr} (e_A_ONE : He.ga K "ONE" = A_ONE) (e_A_NOUGHT : He.ga K "NOUGHT" = A_NOUGHT) (X : K.In h) (G : h.Ns mainGlobals mg) (hfa : mg "law" = some (.ref fa)) (c : SaysY FA FN TS EXB w K) :
    ∃ fd : FuncData, (∀ (s : Shared) (v : Value), BindsTo s fd ⟨[v], []⟩ [("_law_script", v)]) ∧ ∀ base : Heap, K.In base → base.Ns mainGlobals mg → FnOk l.prog w K mg base CX0 10 fa fd ["_law_script"] (spLaw K) := by
  obtain ⟨fd_is_whole, F0_is_whole⟩ := c.t.d.def_ 0 (d := dd_is_whole) rfl
  have F_is_whole : Fun K "is_whole" "is_whole" s_is_whole (He.ga K "is_whole") fd_is_whole := fun_of F0_is_whole
  have k_is_whole := F_is_whole.kp
  have a_is_whole : PySem.W.nsIn K mainGlobals "is_whole" = some (some (.ref (He.ga K "is_whole"))) := He.eqO_ok (c.t.d.fact 0 (f := .glo "is_whole") rfl)
  have b_is_whole := F_is_whole.binds (ps := ["thing"]) fun _ _ _ _ _ _ us hl => match us, hl with | [_], _ => rfl
  obtain ⟨fd_is_fraction, F0_is_fraction⟩ := c.t.d.def_ 1 (d := dd_is_fraction) rfl
  have F_is_fraction : Fun K "is_fraction" "is_fraction" s_is_fraction (He.ga K "is_fraction") fd_is_fraction := fun_of F0_is_fraction
  have k_is_fraction := F_is_fraction.kp
  have a_is_fraction : PySem.W.nsIn K mainGlobals "is_fraction" = some (some (.ref (He.ga K "is_fraction"))) := He.eqO_ok (c.t.d.fact 1 (f := .glo "is_fraction") rfl)
  have b_is_fraction := F_is_fraction.binds (ps := ["thing"]) fun _ _ _ _ _ _ us hl => match us, hl with | [_], _ => rfl
  obtain ⟨fd_shared_divisor, F0_shared_divisor⟩ := c.t.d.def_ 2 (d := dd_shared_divisor) rfl
  have F_shared_divisor : Fun K "shared_divisor" "shared_divisor" s_shared_divisor (He.ga K "shared_divisor") fd_shared_divisor := fun_of F0_shared_divisor
  have k_shared_divisor := F_shared_divisor.kp
  have a_shared_divisor : PySem.W.nsIn K mainGlobals "shared_divisor" = some (some (.ref (He.ga K "shared_divisor"))) := He.eqO_ok (c.t.d.fact 2 (f := .glo "shared_divisor") rfl)
  have b_shared_divisor := F_shared_divisor.binds (ps := ["top", "bottom"]) fun _ _ _ _ _ _ us hl => match us, hl with | [_, _], _ => rfl
  obtain ⟨fd_lowest, F0_lowest⟩ := c.t.d.def_ 3 (d := dd_lowest) rfl
  have F_lowest : Fun K "lowest" "lowest" s_lowest (He.ga K "lowest") fd_lowest := fun_of F0_lowest
  have k_lowest := F_lowest.kp
  have a_lowest : PySem.W.nsIn K mainGlobals "lowest" = some (some (.ref (He.ga K "lowest"))) := He.eqO_ok (c.t.d.fact 3 (f := .glo "lowest") rfl)
  have b_lowest := F_lowest.binds (ps := ["top", "bottom"]) fun _ _ _ _ _ _ us hl => match us, hl with | [_, _], _ => rfl
  obtain ⟨fd_is_fractions, F0_is_fractions⟩ := c.t.d.def_ 4 (d := dd_is_fractions) rfl
  have F_is_fractions : Fun K "is_fractions" "is_fractions" s_is_fractions (He.ga K "is_fractions") fd_is_fractions := fun_of F0_is_fractions
  have k_is_fractions := F_is_fractions.kp
  have a_is_fractions : PySem.W.nsIn K mainGlobals "is_fractions" = some (some (.ref (He.ga K "is_fractions"))) := He.eqO_ok (c.t.d.fact 4 (f := .glo "is_fractions") rfl)
  have b_is_fractions := F_is_fractions.binds (ps := ["thing"]) fun _ _ _ _ _ _ us hl => match us, hl with | [_], _ => rfl
  obtain ⟨fd_common_bottom, F0_common_bottom⟩ := c.t.d.def_ 5 (d := dd_common_bottom) rfl
  have F_common_bottom : Fun K "common_bottom" "common_bottom" s_common_bottom (He.ga K "common_bottom") fd_common_bottom := fun_of F0_common_bottom
  have k_common_bottom := F_common_bottom.kp
  have a_common_bottom : PySem.W.nsIn K mainGlobals "common_bottom" = some (some (.ref (He.ga K "common_bottom"))) := He.eqO_ok (c.t.d.fact 5 (f := .glo "common_bottom") rfl)
  have b_common_bottom := F_common_bottom.binds (ps := ["pairs"]) fun _ _ _ _ _ _ us hl => match us, hl with | [_], _ => rfl
  obtain ⟨fd_cleared, F0_cleared⟩ := c.t.d.def_ 6 (d := dd_cleared) rfl
  have F_cleared : Fun K "cleared" "cleared" s_cleared (He.ga K "cleared") fd_cleared := fun_of F0_cleared
  have k_cleared := F_cleared.kp
  have a_cleared : PySem.W.nsIn K mainGlobals "cleared" = some (some (.ref (He.ga K "cleared"))) := He.eqO_ok (c.t.d.fact 6 (f := .glo "cleared") rfl)
  have b_cleared := F_cleared.binds (ps := ["pairs"]) fun _ _ _ _ _ _ us hl => match us, hl with | [_], _ => rfl
  obtain ⟨fd_dot, F0_dot⟩ := c.t.d.def_ 7 (d := dd_dot) rfl
  have F_dot : Fun K "dot" "dot" s_dot (He.ga K "dot") fd_dot := fun_of F0_dot
  have k_dot := F_dot.kp
  have a_dot : PySem.W.nsIn K mainGlobals "dot" = some (some (.ref (He.ga K "dot"))) := He.eqO_ok (c.t.d.fact 7 (f := .glo "dot") rfl)
  have b_dot := F_dot.binds (ps := ["numbers", "others"]) fun _ _ _ _ _ _ us hl => match us, hl with | [_, _], _ => rfl
  obtain ⟨fd_below_cleared, F0_below_cleared⟩ := c.t.d.def_ 8 (d := dd_below_cleared) rfl
  have F_below_cleared : Fun K "below_cleared" "below_cleared" s_below_cleared (He.ga K "below_cleared") fd_below_cleared := fun_of F0_below_cleared
  have k_below_cleared := F_below_cleared.kp
  have a_below_cleared : PySem.W.nsIn K mainGlobals "below_cleared" = some (some (.ref (He.ga K "below_cleared"))) := He.eqO_ok (c.t.d.fact 8 (f := .glo "below_cleared") rfl)
  have b_below_cleared := F_below_cleared.binds (ps := ["rows", "at", "last"]) fun _ _ _ _ _ _ us hl => match us, hl with | [_, _, _], _ => rfl
  obtain ⟨fd_stepped_above, F0_stepped_above⟩ := c.t.d.def_ 9 (d := dd_stepped_above) rfl
  have F_stepped_above : Fun K "stepped_above" "stepped_above" s_stepped_above (He.ga K "stepped_above") fd_stepped_above := fun_of F0_stepped_above
  have k_stepped_above := F_stepped_above.kp
  have a_stepped_above : PySem.W.nsIn K mainGlobals "stepped_above" = some (some (.ref (He.ga K "stepped_above"))) := He.eqO_ok (c.t.d.fact 9 (f := .glo "stepped_above") rfl)
  have b_stepped_above := F_stepped_above.binds (ps := ["rows"]) fun _ _ _ _ _ _ us hl => match us, hl with | [_], _ => rfl
  obtain ⟨fd_made_up, F0_made_up⟩ := c.t.d.def_ 10 (d := dd_made_up) rfl
  have F_made_up : Fun K "made_up" "made_up" s_made_up (He.ga K "made_up") fd_made_up := fun_of F0_made_up
  have k_made_up := F_made_up.kp
  have a_made_up : PySem.W.nsIn K mainGlobals "made_up" = some (some (.ref (He.ga K "made_up"))) := He.eqO_ok (c.t.d.fact 10 (f := .glo "made_up") rfl)
  have b_made_up := F_made_up.binds (ps := ["rows", "at"]) fun _ _ _ _ _ _ us hl => match us, hl with | [_, _], _ => rfl
  obtain ⟨fd_cancelled, F0_cancelled⟩ := c.t.d.def_ 11 (d := dd_cancelled) rfl
  have F_cancelled : Fun K "cancelled" "cancelled" s_cancelled (He.ga K "cancelled") fd_cancelled := fun_of F0_cancelled
  have k_cancelled := F_cancelled.kp
  have a_cancelled : PySem.W.nsIn K mainGlobals "cancelled" = some (some (.ref (He.ga K "cancelled"))) := He.eqO_ok (c.t.d.fact 11 (f := .glo "cancelled") rfl)
  have b_cancelled := F_cancelled.binds (ps := ["rows", "at", "many"]) fun _ _ _ _ _ _ us hl => match us, hl with | [_, _, _], _ => rfl
  obtain ⟨fd_is_row, F0_is_row⟩ := c.t.d.def_ 12 (d := dd_is_row) rfl
  have F_is_row : Fun K "is_row" "is_row" s_is_row (He.ga K "is_row") fd_is_row := fun_of F0_is_row
  have k_is_row := F_is_row.kp
  have a_is_row : PySem.W.nsIn K mainGlobals "is_row" = some (some (.ref (He.ga K "is_row"))) := He.eqO_ok (c.t.d.fact 12 (f := .glo "is_row") rfl)
  have b_is_row := F_is_row.binds (ps := ["thing"]) fun _ _ _ _ _ _ us hl => match us, hl with | [_], _ => rfl
  obtain ⟨fd_is_matrix, F0_is_matrix⟩ := c.t.d.def_ 13 (d := dd_is_matrix) rfl
  have F_is_matrix : Fun K "is_matrix" "is_matrix" s_is_matrix (He.ga K "is_matrix") fd_is_matrix := fun_of F0_is_matrix
  have k_is_matrix := F_is_matrix.kp
  have a_is_matrix : PySem.W.nsIn K mainGlobals "is_matrix" = some (some (.ref (He.ga K "is_matrix"))) := He.eqO_ok (c.t.d.fact 13 (f := .glo "is_matrix") rfl)
  have b_is_matrix := F_is_matrix.binds (ps := ["thing"]) fun _ _ _ _ _ _ us hl => match us, hl with | [_], _ => rfl
  obtain ⟨fd_shape_of, F0_shape_of⟩ := c.t.d.def_ 14 (d := dd_shape_of) rfl
  have F_shape_of : Fun K "shape_of" "shape_of" s_shape_of (He.ga K "shape_of") fd_shape_of := fun_of F0_shape_of
  have k_shape_of := F_shape_of.kp
  have a_shape_of : PySem.W.nsIn K mainGlobals "shape_of" = some (some (.ref (He.ga K "shape_of"))) := He.eqO_ok (c.t.d.fact 14 (f := .glo "shape_of") rfl)
  have b_shape_of := F_shape_of.binds (ps := ["matrix"]) fun _ _ _ _ _ _ us hl => match us, hl with | [_], _ => rfl
  obtain ⟨fd_turned_over, F0_turned_over⟩ := c.t.d.def_ 15 (d := dd_turned_over) rfl
  have F_turned_over : Fun K "turned_over" "turned_over" s_turned_over (He.ga K "turned_over") fd_turned_over := fun_of F0_turned_over
  have k_turned_over := F_turned_over.kp
  have a_turned_over : PySem.W.nsIn K mainGlobals "turned_over" = some (some (.ref (He.ga K "turned_over"))) := He.eqO_ok (c.t.d.fact 15 (f := .glo "turned_over") rfl)
  have b_turned_over := F_turned_over.binds (ps := ["matrix"]) fun _ _ _ _ _ _ us hl => match us, hl with | [_], _ => rfl
  obtain ⟨fd_is_square, F0_is_square⟩ := c.t.d.def_ 16 (d := dd_is_square) rfl
  have F_is_square : Fun K "is_square" "is_square" s_is_square (He.ga K "is_square") fd_is_square := fun_of F0_is_square
  have k_is_square := F_is_square.kp
  have a_is_square : PySem.W.nsIn K mainGlobals "is_square" = some (some (.ref (He.ga K "is_square"))) := He.eqO_ok (c.t.d.fact 16 (f := .glo "is_square") rfl)
  have b_is_square := F_is_square.binds (ps := ["thing"]) fun _ _ _ _ _ _ us hl => match us, hl with | [_], _ => rfl
  obtain ⟨fd_is_symmetric, F0_is_symmetric⟩ := c.t.d.def_ 17 (d := dd_is_symmetric) rfl
  have F_is_symmetric : Fun K "is_symmetric" "is_symmetric" s_is_symmetric (He.ga K "is_symmetric") fd_is_symmetric := fun_of F0_is_symmetric
  have k_is_symmetric := F_is_symmetric.kp
  have a_is_symmetric : PySem.W.nsIn K mainGlobals "is_symmetric" = some (some (.ref (He.ga K "is_symmetric"))) := He.eqO_ok (c.t.d.fact 17 (f := .glo "is_symmetric") rfl)
  have b_is_symmetric := F_is_symmetric.binds (ps := ["thing"]) fun _ _ _ _ _ _ us hl => match us, hl with | [_], _ => rfl
  obtain ⟨fd_check_symmetric, F0_check_symmetric⟩ := c.t.d.def_ 18 (d := dd_check_symmetric) rfl
  have F_check_symmetric : Fun K "check_symmetric" "check_symmetric" s_check_symmetric (He.ga K "check_symmetric") fd_check_symmetric := fun_of F0_check_symmetric
  have k_check_symmetric := F_check_symmetric.kp
  have a_check_symmetric : PySem.W.nsIn K mainGlobals "check_symmetric" = some (some (.ref (He.ga K "check_symmetric"))) := He.eqO_ok (c.t.d.fact 18 (f := .glo "check_symmetric") rfl)
  have b_check_symmetric := F_check_symmetric.binds (ps := ["thing"]) fun _ _ _ _ _ _ us hl => match us, hl with | [_], _ => rfl
  obtain ⟨fd_lower_place, F0_lower_place⟩ := c.t.d.def_ 19 (d := dd_lower_place) rfl
  have F_lower_place : Fun K "lower_place" "lower_place" s_lower_place (He.ga K "lower_place") fd_lower_place := fun_of F0_lower_place
  have k_lower_place := F_lower_place.kp
  have a_lower_place : PySem.W.nsIn K mainGlobals "lower_place" = some (some (.ref (He.ga K "lower_place"))) := He.eqO_ok (c.t.d.fact 19 (f := .glo "lower_place") rfl)
  have b_lower_place := F_lower_place.binds (ps := ["stepped", "row", "column"]) fun _ _ _ _ _ _ us hl => match us, hl with | [_, _, _], _ => rfl
  obtain ⟨fd_pivots_of, F0_pivots_of⟩ := c.t.d.def_ 20 (d := dd_pivots_of) rfl
  have F_pivots_of : Fun K "pivots_of" "pivots_of" s_pivots_of (He.ga K "pivots_of") fd_pivots_of := fun_of F0_pivots_of
  have k_pivots_of := F_pivots_of.kp
  have a_pivots_of : PySem.W.nsIn K mainGlobals "pivots_of" = some (some (.ref (He.ga K "pivots_of"))) := He.eqO_ok (c.t.d.fact 20 (f := .glo "pivots_of") rfl)
  have b_pivots_of := F_pivots_of.binds (ps := ["stepped", "bottoms"]) fun _ _ _ _ _ _ us hl => match us, hl with | [_, _], _ => rfl
  obtain ⟨fd_signs_of, F0_signs_of⟩ := c.t.d.def_ 21 (d := dd_signs_of) rfl
  have F_signs_of : Fun K "signs_of" "signs_of" s_signs_of (He.ga K "signs_of") fd_signs_of := fun_of F0_signs_of
  have k_signs_of := F_signs_of.kp
  have a_signs_of : PySem.W.nsIn K mainGlobals "signs_of" = some (some (.ref (He.ga K "signs_of"))) := He.eqO_ok (c.t.d.fact 21 (f := .glo "signs_of") rfl)
  have b_signs_of := F_signs_of.binds (ps := ["matrix"]) fun _ _ _ _ _ _ us hl => match us, hl with | [_], _ => rfl
  obtain ⟨fd_signs, F0_signs⟩ := c.t.d.def_ 22 (d := dd_signs) rfl
  have F_signs : Fun K "signs" "signs" s_signs (He.ga K "signs") fd_signs := fun_of F0_signs
  have k_signs := F_signs.kp
  have a_signs : PySem.W.nsIn K mainGlobals "signs" = some (some (.ref (He.ga K "signs"))) := He.eqO_ok (c.t.d.fact 22 (f := .glo "signs") rfl)
  have b_signs := F_signs.binds (ps := ["matrix"]) fun _ _ _ _ _ _ us hl => match us, hl with | [_], _ => rfl
  obtain ⟨fd__law_cell_at, F0__law_cell_at⟩ := c.t.d.def_ 23 (d := dd__law_cell_at) rfl
  have F__law_cell_at : Fun K "_law_cell_at" "_law_cell_at" s__law_cell_at (He.ga K "_law_cell_at") fd__law_cell_at := fun_of F0__law_cell_at
  have k__law_cell_at := F__law_cell_at.kp
  have a__law_cell_at : PySem.W.nsIn K mainGlobals "_law_cell_at" = some (some (.ref (He.ga K "_law_cell_at"))) := He.eqO_ok (c.t.d.fact 23 (f := .glo "_law_cell_at") rfl)
  have b__law_cell_at := F__law_cell_at.binds (ps := ["_law_script", "_law_k"]) fun _ _ _ _ _ _ us hl => match us, hl with | [_, _], _ => rfl
  obtain ⟨fd__law_well, F0__law_well⟩ := c.t.d.def_ 24 (d := dd__law_well) rfl
  have F__law_well : Fun K "_law_well" "_law_well" s__law_well (He.ga K "_law_well") fd__law_well := fun_of F0__law_well
  have k__law_well := F__law_well.kp
  have a__law_well : PySem.W.nsIn K mainGlobals "_law_well" = some (some (.ref (He.ga K "_law_well"))) := He.eqO_ok (c.t.d.fact 24 (f := .glo "_law_well") rfl)
  have b__law_well := F__law_well.binds (ps := ["_law_cell"]) fun _ _ _ _ _ _ us hl => match us, hl with | [_], _ => rfl
  obtain ⟨fd__law_draw, F0__law_draw⟩ := c.t.d.def_ 25 (d := dd__law_draw) rfl
  have F__law_draw : Fun K "_law_draw" "_law_draw" s__law_draw (He.ga K "_law_draw") fd__law_draw := fun_of F0__law_draw
  have k__law_draw := F__law_draw.kp
  have a__law_draw : PySem.W.nsIn K mainGlobals "_law_draw" = some (some (.ref (He.ga K "_law_draw"))) := He.eqO_ok (c.t.d.fact 25 (f := .glo "_law_draw") rfl)
  have b__law_draw := F__law_draw.binds (ps := ["_law_well_here", "_law_many"]) fun _ _ _ _ _ _ us hl => match us, hl with | [_, _], _ => rfl
  obtain ⟨fd__law_one, F0__law_one⟩ := c.t.d.def_ 26 (d := dd__law_one) rfl
  have F__law_one : Fun K "_law_one" "_law_one" s__law_one (He.ga K "_law_one") fd__law_one := fun_of F0__law_one
  have k__law_one := F__law_one.kp
  have a__law_one : PySem.W.nsIn K mainGlobals "_law_one" = some (some (.ref (He.ga K "_law_one"))) := He.eqO_ok (c.t.d.fact 26 (f := .glo "_law_one") rfl)
  have b__law_one := F__law_one.binds (ps := ["_law_well_here", "_law_some"]) fun _ _ _ _ _ _ us hl => match us, hl with | [_, _], _ => rfl
  obtain ⟨fd__law_low, F0__law_low⟩ := c.t.d.def_ 27 (d := dd__law_low) rfl
  have F__law_low : Fun K "_law_low" "_law_low" s__law_low (He.ga K "_law_low") fd__law_low := fun_of F0__law_low
  have k__law_low := F__law_low.kp
  have a__law_low : PySem.W.nsIn K mainGlobals "_law_low" = some (some (.ref (He.ga K "_law_low"))) := He.eqO_ok (c.t.d.fact 27 (f := .glo "_law_low") rfl)
  have b__law_low := F__law_low.binds (ps := ["_law_top", "_law_bottom"]) fun _ _ _ _ _ _ us hl => match us, hl with | [_, _], _ => rfl
  obtain ⟨fd__law_sum, F0__law_sum⟩ := c.t.d.def_ 28 (d := dd__law_sum) rfl
  have F__law_sum : Fun K "_law_sum" "_law_sum" s__law_sum (He.ga K "_law_sum") fd__law_sum := fun_of F0__law_sum
  have k__law_sum := F__law_sum.kp
  have a__law_sum : PySem.W.nsIn K mainGlobals "_law_sum" = some (some (.ref (He.ga K "_law_sum"))) := He.eqO_ok (c.t.d.fact 28 (f := .glo "_law_sum") rfl)
  have b__law_sum := F__law_sum.binds (ps := ["_law_some"]) fun _ _ _ _ _ _ us hl => match us, hl with | [_], _ => rfl
  obtain ⟨fd__law_dot, F0__law_dot⟩ := c.t.d.def_ 29 (d := dd__law_dot) rfl
  have F__law_dot : Fun K "_law_dot" "_law_dot" s__law_dot (He.ga K "_law_dot") fd__law_dot := fun_of F0__law_dot
  have k__law_dot := F__law_dot.kp
  have a__law_dot : PySem.W.nsIn K mainGlobals "_law_dot" = some (some (.ref (He.ga K "_law_dot"))) := He.eqO_ok (c.t.d.fact 29 (f := .glo "_law_dot") rfl)
  have b__law_dot := F__law_dot.binds (ps := ["_law_one_here", "_law_other"]) fun _ _ _ _ _ _ us hl => match us, hl with | [_, _], _ => rfl
  obtain ⟨fd__law_place, F0__law_place⟩ := c.t.d.def_ 30 (d := dd__law_place) rfl
  have F__law_place : Fun K "_law_place" "_law_place" s__law_place (He.ga K "_law_place") fd__law_place := fun_of F0__law_place
  have k__law_place := F__law_place.kp
  have a__law_place : PySem.W.nsIn K mainGlobals "_law_place" = some (some (.ref (He.ga K "_law_place"))) := He.eqO_ok (c.t.d.fact 30 (f := .glo "_law_place") rfl)
  have b__law_place := F__law_place.binds (ps := ["_law_well_here", "_law_kind"]) fun _ _ _ _ _ _ us hl => match us, hl with | [_, _], _ => rfl
  obtain ⟨fd__law_lower, F0__law_lower⟩ := c.t.d.def_ 31 (d := dd__law_lower) rfl
  have F__law_lower : Fun K "_law_lower" "_law_lower" s__law_lower (He.ga K "_law_lower") fd__law_lower := fun_of F0__law_lower
  have k__law_lower := F__law_lower.kp
  have a__law_lower : PySem.W.nsIn K mainGlobals "_law_lower" = some (some (.ref (He.ga K "_law_lower"))) := He.eqO_ok (c.t.d.fact 31 (f := .glo "_law_lower") rfl)
  have b__law_lower := F__law_lower.binds (ps := ["_law_well_here", "_law_many", "_law_kind"]) fun _ _ _ _ _ _ us hl => match us, hl with | [_, _, _], _ => rfl
  obtain ⟨fd__law_of, F0__law_of⟩ := c.t.d.def_ 32 (d := dd__law_of) rfl
  have F__law_of : Fun K "_law_of" "_law_of" s__law_of (He.ga K "_law_of") fd__law_of := fun_of F0__law_of
  have k__law_of := F__law_of.kp
  have a__law_of : PySem.W.nsIn K mainGlobals "_law_of" = some (some (.ref (He.ga K "_law_of"))) := He.eqO_ok (c.t.d.fact 32 (f := .glo "_law_of") rfl)
  have b__law_of := F__law_of.binds (ps := ["_law_lower_here", "_law_pivots_here"]) fun _ _ _ _ _ _ us hl => match us, hl with | [_, _], _ => rfl
  obtain ⟨fd__law_pivots, F0__law_pivots⟩ := c.t.d.def_ 33 (d := dd__law_pivots) rfl
  have F__law_pivots : Fun K "_law_pivots" "_law_pivots" s__law_pivots (He.ga K "_law_pivots") fd__law_pivots := fun_of F0__law_pivots
  have k__law_pivots := F__law_pivots.kp
  have a__law_pivots : PySem.W.nsIn K mainGlobals "_law_pivots" = some (some (.ref (He.ga K "_law_pivots"))) := He.eqO_ok (c.t.d.fact 33 (f := .glo "_law_pivots") rfl)
  have b__law_pivots := F__law_pivots.binds (ps := ["_law_well_here", "_law_many", "_law_kind", "_law_way"]) fun _ _ _ _ _ _ us hl => match us, hl with | [_, _, _, _], _ => rfl
  obtain ⟨fd__law_square, F0__law_square⟩ := c.t.d.def_ 34 (d := dd__law_square) rfl
  have F__law_square : Fun K "_law_square" "_law_square" s__law_square (He.ga K "_law_square") fd__law_square := fun_of F0__law_square
  have k__law_square := F__law_square.kp
  have a__law_square : PySem.W.nsIn K mainGlobals "_law_square" = some (some (.ref (He.ga K "_law_square"))) := He.eqO_ok (c.t.d.fact 34 (f := .glo "_law_square") rfl)
  have b__law_square := F__law_square.binds (ps := ["_law_well_here", "_law_many", "_law_kind"]) fun _ _ _ _ _ _ us hl => match us, hl with | [_, _, _], _ => rfl
  obtain ⟨fd__law_own, F0__law_own⟩ := c.t.d.def_ 35 (d := dd__law_own) rfl
  have F__law_own : Fun K "_law_own" "_law_own" s__law_own (He.ga K "_law_own") fd__law_own := fun_of F0__law_own
  have k__law_own := F__law_own.kp
  have a__law_own : PySem.W.nsIn K mainGlobals "_law_own" = some (some (.ref (He.ga K "_law_own"))) := He.eqO_ok (c.t.d.fact 35 (f := .glo "_law_own") rfl)
  have b__law_own := F__law_own.binds (ps := ["_law_well_here", "_law_many", "_law_kind"]) fun _ _ _ _ _ _ us hl => match us, hl with | [_, _, _], _ => rfl
  obtain ⟨fd__law_plain, F0__law_plain⟩ := c.t.d.def_ 36 (d := dd__law_plain) rfl
  have F__law_plain : Fun K "_law_plain" "_law_plain" s__law_plain (He.ga K "_law_plain") fd__law_plain := fun_of F0__law_plain
  have k__law_plain := F__law_plain.kp
  have a__law_plain : PySem.W.nsIn K mainGlobals "_law_plain" = some (some (.ref (He.ga K "_law_plain"))) := He.eqO_ok (c.t.d.fact 36 (f := .glo "_law_plain") rfl)
  have b__law_plain := F__law_plain.binds (ps := ["_law_told"]) fun _ _ _ _ _ _ us hl => match us, hl with | [_], _ => rfl
  obtain ⟨fd__law_right, F0__law_right⟩ := c.t.d.def_ 37 (d := dd__law_right) rfl
  have F__law_right : Fun K "_law_right" "_law_right" s__law_right (He.ga K "_law_right") fd__law_right := fun_of F0__law_right
  have k__law_right := F__law_right.kp
  have a__law_right : PySem.W.nsIn K mainGlobals "_law_right" = some (some (.ref (He.ga K "_law_right"))) := He.eqO_ok (c.t.d.fact 37 (f := .glo "_law_right") rfl)
  have b__law_right := F__law_right.binds (ps := ["_law_matrix", "_law_told"]) fun _ _ _ _ _ _ us hl => match us, hl with | [_, _], _ => rfl
  obtain ⟨fd__law_beside, F0__law_beside⟩ := c.t.d.def_ 38 (d := dd__law_beside) rfl
  have F__law_beside : Fun K "_law_beside" "_law_beside" s__law_beside (He.ga K "_law_beside") fd__law_beside := fun_of F0__law_beside
  have k__law_beside := F__law_beside.kp
  have a__law_beside : PySem.W.nsIn K mainGlobals "_law_beside" = some (some (.ref (He.ga K "_law_beside"))) := He.eqO_ok (c.t.d.fact 38 (f := .glo "_law_beside") rfl)
  have b__law_beside := F__law_beside.binds (ps := ["_law_matrix"]) fun _ _ _ _ _ _ us hl => match us, hl with | [_], _ => rfl
  obtain ⟨fd_law, F0_law⟩ := c.t.d.def_ 39 (d := dd_law) rfl
  have F_law : Fun K "law" "law" s_law (He.ga K "law") fd_law := fun_of F0_law
  have k_law := F_law.kp
  have a_law : PySem.W.nsIn K mainGlobals "law" = some (some (.ref (He.ga K "law"))) := He.eqO_ok (c.t.d.fact 39 (f := .glo "law") rfl)
  have b_law := F_law.binds (ps := ["_law_script"]) fun _ _ _ _ _ _ us hl => match us, hl with | [_], _ => rfl
  obtain ⟨tk_MOST_ROWS, gm_MOST_ROWS⟩ := He.int_ok X G (c.t.d.fact 40 (f := .int "MOST_ROWS" 10) rfl)
  have gm_ONE : mg "ONE" = some (.ref A_ONE) := by
    rw [← e_A_ONE]
    exact He.glo_ok X G (c.t.d.fact 41 (f := .glo "ONE") rfl)
  have T_ONE : ∀ H, SqT K H A_ONE [V.int 1, V.int 1] := by
    rw [← e_A_ONE]
    exact fun H => He.tupB_ok (ex_at c.more (i := 0) (b := He.tupB K "ONE" [.int 1, .int 1]) rfl) H
  have gm_NOUGHT : mg "NOUGHT" = some (.ref A_NOUGHT) := by
    rw [← e_A_NOUGHT]
    exact He.glo_ok X G (c.t.d.fact 42 (f := .glo "NOUGHT") rfl)
  have T_NOUGHT : ∀ H, SqT K H A_NOUGHT [V.int 0, V.int 1] := by
    rw [← e_A_NOUGHT]
    exact fun H => He.tupB_ok (ex_at c.more (i := 1) (b := He.tupB K "NOUGHT" [.int 0, .int 1]) rfl) H
  have zf_isinstance : mg "isinstance" = none := He.free_ok X G (c.t.d.fact 43 (f := .free "isinstance") rfl)
  have zf_int : mg "int" = none := He.free_ok X G (c.t.d.fact 44 (f := .free "int") rfl)
  have zf_bool : mg "bool" = none := He.free_ok X G (c.t.d.fact 45 (f := .free "bool") rfl)
  have zf_tuple : mg "tuple" = none := He.free_ok X G (c.t.d.fact 46 (f := .free "tuple") rfl)
  have zf_len : mg "len" = none := He.free_ok X G (c.t.d.fact 47 (f := .free "len") rfl)
  have zf_abs : mg "abs" = none := He.free_ok X G (c.t.d.fact 48 (f := .free "abs") rfl)
  have zf_list : mg "list" = none := He.free_ok X G (c.t.d.fact 49 (f := .free "list") rfl)
  have zf_all : mg "all" = none := He.free_ok X G (c.t.d.fact 50 (f := .free "all") rfl)
  have zf_sum : mg "sum" = none := He.free_ok X G (c.t.d.fact 51 (f := .free "sum") rfl)
  have zf_zip : mg "zip" = none := He.free_ok X G (c.t.d.fact 52 (f := .free "zip") rfl)
  have zf_range : mg "range" = none := He.free_ok X G (c.t.d.fact 53 (f := .free "range") rfl)
  have zf_reversed : mg "reversed" = none := He.free_ok X G (c.t.d.fact 54 (f := .free "reversed") rfl)
  have zf_enumerate : mg "enumerate" = none := He.free_ok X G (c.t.d.fact 55 (f := .free "enumerate") rfl)
  have zf_max : mg "max" = none := He.free_ok X G (c.t.d.fact 56 (f := .free "max") rfl)

  have z : Zs mg := ⟨zf_isinstance, zf_int, zf_bool, zf_tuple, zf_len, zf_abs, zf_list, zf_all, zf_sum, zf_zip, zf_range, zf_reversed, zf_enumerate, zf_max⟩
  have e := hfa.symm.trans (PySem.W.mg_of X G a_law)
  cases e
  have FL_law : FunD K "law" "law" (defArgs s_law) (defBody s_law) (defScope s_law) [] [] (He.ga K "law") fd_law := F0_law
  have bl := FunD.bindsA (ps := ["_law_script"]) FL_law fun _ _ _ _ _ _ us hl => match us, hl with | [_], _ => rfl
  refine ⟨_, fun s v => bl s [v] rfl, fun base _ _ => ?_⟩
  have c_is_whole : Cal l.prog w K mg base 1 "is_whole" ["thing"] _ := ⟨_, _, PySem.W.mg_of X G a_is_whole, k_is_whole, b_is_whole, ok_is_whole (k := 0) F_is_whole z⟩
  have c_shared_divisor : Cal l.prog w K mg base 1 "shared_divisor" ["top", "bottom"] _ := ⟨_, _, PySem.W.mg_of X G a_shared_divisor, k_shared_divisor, b_shared_divisor, ok_shared_divisor (k := 0) F_shared_divisor z⟩
  have c_lowest : Cal l.prog w K mg base 2 "lowest" ["top", "bottom"] _ := ⟨_, _, PySem.W.mg_of X G a_lowest, k_lowest, b_lowest, ok_lowest F_lowest c_shared_divisor⟩
  have c_is_fraction : Cal l.prog w K mg base 2 "is_fraction" ["thing"] _ := ⟨_, _, PySem.W.mg_of X G a_is_fraction, k_is_fraction, b_is_fraction, ok_is_fraction F_is_fraction z c_is_whole c_shared_divisor⟩
  have c_is_fractions : Cal l.prog w K mg base 3 "is_fractions" ["thing"] _ := ⟨_, _, PySem.W.mg_of X G a_is_fractions, k_is_fractions, b_is_fractions, ok_is_fractions F_is_fractions z c_is_fraction⟩
  have c_common_bottom : Cal l.prog w K mg base 2 "common_bottom" ["pairs"] _ := ⟨_, _, PySem.W.mg_of X G a_common_bottom, k_common_bottom, b_common_bottom, ok_common_bottom F_common_bottom z c_shared_divisor⟩
  have c_cleared : Cal l.prog w K mg base 3 "cleared" ["pairs"] _ := ⟨_, _, PySem.W.mg_of X G a_cleared, k_cleared, b_cleared, ok_cleared F_cleared c_common_bottom⟩
  have c_dot : Cal l.prog w K mg base 1 "dot" ["numbers", "others"] _ := ⟨_, _, PySem.W.mg_of X G a_dot, k_dot, b_dot, ok_dot (k := 0) F_dot z⟩
  have c_below_cleared : Cal l.prog w K mg base 1 "below_cleared" ["rows", "at", "last"] _ := ⟨_, _, PySem.W.mg_of X G a_below_cleared, k_below_cleared, b_below_cleared, ok_below_cleared (k := 0) F_below_cleared z⟩
  have c_stepped_above : Cal l.prog w K mg base 2 "stepped_above" ["rows"] _ := ⟨_, _, PySem.W.mg_of X G a_stepped_above, k_stepped_above, b_stepped_above, ok_stepped_above F_stepped_above z c_below_cleared⟩
  have c_made_up : Cal l.prog w K mg base 3 "made_up" ["rows", "at"] _ := ⟨_, _, PySem.W.mg_of X G a_made_up, k_made_up, b_made_up, ok_made_up F_made_up z c_dot c_lowest⟩
  have c_cancelled : Cal l.prog w K mg base 4 "cancelled" ["rows", "at", "many"] _ := ⟨_, _, PySem.W.mg_of X G a_cancelled, k_cancelled, b_cancelled, ok_cancelled F_cancelled z gm_ONE T_ONE gm_NOUGHT T_NOUGHT c_made_up⟩
  have c_lower_place : Cal l.prog w K mg base 3 "lower_place" ["stepped", "row", "column"] _ := ⟨_, _, PySem.W.mg_of X G a_lower_place, k_lower_place, b_lower_place, ok_lower_place F_lower_place c_lowest⟩
  have c_pivots_of : Cal l.prog w K mg base 3 "pivots_of" ["stepped", "bottoms"] _ := ⟨_, _, PySem.W.mg_of X G a_pivots_of, k_pivots_of, b_pivots_of, ok_pivots_of F_pivots_of z c_lowest⟩
  have c_is_row : Cal l.prog w K mg base 4 "is_row" ["thing"] _ := ⟨_, _, PySem.W.mg_of X G a_is_row, k_is_row, b_is_row, ok_is_row F_is_row z gm_MOST_ROWS c_is_fractions⟩
  have c_is_matrix : Cal l.prog w K mg base 5 "is_matrix" ["thing"] _ := ⟨_, _, PySem.W.mg_of X G a_is_matrix, k_is_matrix, b_is_matrix, ok_is_matrix F_is_matrix z gm_MOST_ROWS c_is_row⟩
  have c_shape_of : Cal l.prog w K mg base 1 "shape_of" ["matrix"] _ := ⟨_, _, PySem.W.mg_of X G a_shape_of, k_shape_of, b_shape_of, ok_shape_of (k := 0) F_shape_of z⟩
  have c_is_square : Cal l.prog w K mg base 6 "is_square" ["thing"] _ := ⟨_, _, PySem.W.mg_of X G a_is_square, k_is_square, b_is_square, ok_is_square F_is_square z c_is_matrix c_shape_of⟩
  have c_signs_of : Cal l.prog w K mg base 5 "signs_of" ["matrix"] _ := ⟨_, _, PySem.W.mg_of X G a_signs_of, k_signs_of, b_signs_of, ok_signs_of F_signs_of z c_cleared c_stepped_above c_cancelled c_lower_place c_pivots_of⟩
  have c_turned_over : Cal l.prog w K mg base 1 "turned_over" ["matrix"] _ := ⟨_, _, PySem.W.mg_of X G a_turned_over, k_turned_over, b_turned_over, ok_turned_over (k := 0) F_turned_over z⟩
  have c_is_symmetric : Cal l.prog w K mg base 7 "is_symmetric" ["thing"] _ := ⟨_, _, PySem.W.mg_of X G a_is_symmetric, k_is_symmetric, b_is_symmetric, ok_is_symmetric F_is_symmetric z c_is_square c_turned_over⟩
  have c_check_symmetric : Cal l.prog w K mg base 8 "check_symmetric" ["thing"] _ := ⟨_, _, PySem.W.mg_of X G a_check_symmetric, k_check_symmetric, b_check_symmetric, ok_check_symmetric F_check_symmetric z c_is_symmetric⟩
  have c_signs : Cal l.prog w K mg base 9 "signs" ["matrix"] _ := ⟨_, _, PySem.W.mg_of X G a_signs, k_signs, b_signs, ok_signs F_signs z c_check_symmetric c_signs_of⟩
  have c__law_cell_at : Cal l.prog w K mg base 1 "_law_cell_at" ["_law_script", "_law_k"] _ := ⟨_, _, PySem.W.mg_of X G a__law_cell_at, k__law_cell_at, b__law_cell_at, ok_cell (k := 0) F__law_cell_at z.len⟩
  have c__law_well : Cal l.prog w K mg base 1 "_law_well" ["_law_cell"] _ := ⟨_, _, PySem.W.mg_of X G a__law_well, k__law_well, b__law_well, ok_well (k := 0) F__law_well z.int⟩
  have c__law_draw : Cal l.prog w K mg base 1 "_law_draw" ["_law_well_here", "_law_many"] _ := ⟨_, _, PySem.W.mg_of X G a__law_draw, k__law_draw, b__law_draw, ok_draw (k := 0) F__law_draw⟩
  have c__law_one : Cal l.prog w K mg base 2 "_law_one" ["_law_well_here", "_law_some"] _ := ⟨_, _, PySem.W.mg_of X G a__law_one, k__law_one, b__law_one, ok__law_one F__law_one z c__law_draw⟩
  have c__law_low : Cal l.prog w K mg base 1 "_law_low" ["_law_top", "_law_bottom"] _ := ⟨_, _, PySem.W.mg_of X G a__law_low, k__law_low, b__law_low, ok__law_low (k := 0) F__law_low z⟩
  have c__law_sum : Cal l.prog w K mg base 2 "_law_sum" ["_law_some"] _ := ⟨_, _, PySem.W.mg_of X G a__law_sum, k__law_sum, b__law_sum, ok__law_sum F__law_sum c__law_low⟩
  have c__law_dot : Cal l.prog w K mg base 3 "_law_dot" ["_law_one_here", "_law_other"] _ := ⟨_, _, PySem.W.mg_of X G a__law_dot, k__law_dot, b__law_dot, ok__law_dot F__law_dot z c__law_sum⟩
  have c__law_place : Cal l.prog w K mg base 2 "_law_place" ["_law_well_here", "_law_kind"] _ := ⟨_, _, PySem.W.mg_of X G a__law_place, k__law_place, b__law_place, ok__law_place F__law_place c__law_draw c__law_low⟩
  have c__law_lower : Cal l.prog w K mg base 3 "_law_lower" ["_law_well_here", "_law_many", "_law_kind"] _ := ⟨_, _, PySem.W.mg_of X G a__law_lower, k__law_lower, b__law_lower, ok__law_lower F__law_lower z c__law_place⟩
  have c__law_of : Cal l.prog w K mg base 4 "_law_of" ["_law_lower_here", "_law_pivots_here"] _ := ⟨_, _, PySem.W.mg_of X G a__law_of, k__law_of, b__law_of, ok__law_of F__law_of z c__law_low c__law_dot⟩
  have c__law_pivots : Cal l.prog w K mg base 3 "_law_pivots" ["_law_well_here", "_law_many", "_law_kind", "_law_way"] _ := ⟨_, _, PySem.W.mg_of X G a__law_pivots, k__law_pivots, b__law_pivots, ok__law_pivots F__law_pivots z c__law_draw c__law_one c__law_low c__law_place⟩
  have c__law_square : Cal l.prog w K mg base 3 "_law_square" ["_law_well_here", "_law_many", "_law_kind"] _ := ⟨_, _, PySem.W.mg_of X G a__law_square, k__law_square, b__law_square, ok__law_square F__law_square z c__law_place⟩
  have c__law_own : Cal l.prog w K mg base 4 "_law_own" ["_law_well_here", "_law_many", "_law_kind"] _ := ⟨_, _, PySem.W.mg_of X G a__law_own, k__law_own, b__law_own, ok__law_own F__law_own z c__law_draw c__law_dot c__law_place⟩
  have c__law_beside : Cal l.prog w K mg base 1 "_law_beside" ["_law_matrix"] _ := ⟨_, _, PySem.W.mg_of X G a__law_beside, k__law_beside, b__law_beside, ok__law_beside (k := 0) F__law_beside z⟩
  have c_p0 : Cal l.prog w K mg base 1 "_law_plain" ["_law_told"] spNo := ⟨_, _, PySem.W.mg_of X G a__law_plain, k__law_plain, b__law_plain, ok_plainN (k := 0) F__law_plain⟩
  have c_p1 : Cal l.prog w K mg base 2 "_law_plain" ["_law_told"] (spPlT K) := ⟨_, _, PySem.W.mg_of X G a__law_plain, k__law_plain, b__law_plain, ok_plainT F__law_plain z c_p0 c__law_low⟩
  have c_p2 : Cal l.prog w K mg base 3 "_law_plain" ["_law_told"] (spPlTL K) := ⟨_, _, PySem.W.mg_of X G a__law_plain, k__law_plain, b__law_plain, ok_plainTL F__law_plain z c_p1 c__law_low⟩
  have c__law_plain : Cal l.prog w K mg base 4 "_law_plain" ["_law_told"] (spPlX K) := ⟨_, _, PySem.W.mg_of X G a__law_plain, k__law_plain, b__law_plain, ok_plainX F__law_plain z c_p2 c__law_low⟩
  have c__law_right : Cal l.prog w K mg base 5 "_law_right" ["_law_matrix", "_law_told"] _ := ⟨_, _, PySem.W.mg_of X G a__law_right, k__law_right, b__law_right, ok__law_right F__law_right z c__law_plain c__law_dot c__law_of⟩
  exact ok_law F_law z c__law_cell_at c__law_well c__law_draw c__law_one c__law_lower c__law_pivots c__law_of c__law_square c__law_own c_signs c__law_right c__law_beside c__law_low

end E1

open PySem PySem.W PySem.Calls PyProof.Rows
set_option maxRecDepth 100000 in
set_option maxHeartbeats 0 in
theorem PySem.Challenge.cw_echobound_k14_above_nought_or_not_holds : PySem.Challenge.rw_echobound_k14_above_nought_or_not.Holds := by
  w_on; o_law
  refine HandSHeadRun.head_any (r := OpenLaw.row PySem.Challenge.rw_echobound_k14_above_nought_or_not) (q := HX.qv) (H := HX.hk) (ob := HX.ob) (M := 1684) (loose := HX.names) (d := HandSHeadRun.topDef (OpenLaw.row PySem.Challenge.rw_echobound_k14_above_nought_or_not).prog 49) (kwd := []) HX.ob_eq (by kernel_rfl) (fun s => by kernel_rfl) HX.run (by kernel_rfl) (by kernel_rfl) (by kernel_rfl) (by rfl) (by first | assumption | decide +kernel) (by decide +kernel) ⟨rfl, rfl, rfl, rfl, rfl, by decide +kernel⟩ ?hw ?hc
  case hw => w_witness2
  case hc =>
    refine L2.walk_ofE (l := PySem.Challenge.rw_echobound_k14_above_nought_or_not) (n := 63) (k := 10) (x := "_law_script") (CX := L2.CX0) rfl (by decide) (by kernel_rfl) ⟨rfl, by decide, by decide⟩ ?F (fun _ _ _ _ z => z)
    intro w mg fa h Y G hmg0
    obtain ⟨K, KX, c⟩ := Y
    have hmg : mg ("law" : PySem.Str) = some (.ref fa) := by
      have e : (HandSHeadRun.topDef (OpenLaw.row PySem.Challenge.rw_echobound_k14_above_nought_or_not).prog 49).name = ("law" : PySem.Str) := by kernel_rfl
      rw [← e]
      exact hmg0
    obtain ⟨fd, hb, hF⟩ := E1.all_mk (l := PySem.Challenge.rw_echobound_k14_above_nought_or_not) rfl rfl KX G hmg c
    exact ⟨K, fd, E1.spLaw K, KX, hb, fun H a ns hl _ hS => ⟨a, ns, rfl, hS, hl, fun _ => rfl⟩, hF⟩
