import PyProof.Rows.All
import Wide.All
import OpenK.AllK
import Wide.FinOn
import HandS.Codes
import HandS.ForMost
import HandS.Wide
import HandS.Zip
import HandS.IsInst
import HandS.Defaults
import HandS.Style
import HandS.Star
import HandS.Walk
import HandS.More
import HandS.WideBits
import OpenK.KEqL
import HandS.Flow
import HandS.Conv
import HandS.TupAny
import HandS.Small
import HandS.Deep
import KE.RegKSuper
import KE.RegKIsAll
import KE.RegKTryMore
import KE.KNestM
import HandS.EndTab
import KE.KStateDown
import HandS.Words
import HandS.WordsExc
import HandS.Head0
import HandS.Head1
import HandS.Head2
import HandS.HeadEnd
import HandS.HeadHook1
import HandS.HeadHook2
import HandS.HeadHook3
import HandS.HeadHook4
import PySem.Challenge.RW_echobound_k18_ladders_down_and_up
set_option Elab.async false
set_option linter.all false
set_option maxRecDepth 100000
set_option maxHeartbeats 4000000
namespace E1
open PySem PySem.Spec PyProof.Rows L2
/-! ### a def of the text that is called by its name -/
def Cal (P : Program) (w : World) (K : PySem.W.Frag) (mg : Str → Option Value) (base : Heap) (k : Nat) (x : Str) (ps : List Str) (sp : Sp) : Prop :=
  ∃ (f : Addr) (fd : FuncData), mg x = some (.ref f) ∧ PySem.W.keepIn K (.ref f) = true ∧ Binds K fd ps [] ∧ FnOk P w K mg base CX0 k f fd ps sp
theorem pe_cal {X : Cx} {k j : Nat} {x : Str} {ps : List Str} {sp : Sp} {e : Expr} {es : List Expr} {t : TA} {p pos : Pos} (c : Cal X.prog X.w X.K X.mg X.base k x ps sp) (hr : Room j X.A) (ha : PA X (e :: es) t) (hle : k ≤ j := by decide) (hg : Gl X x := by rfl)
    (hdb : (x == ("__debug__" : Str)) = false := by decide) (he : starEach (e :: es) X.env = (false, eval e X.env) :: starEach es X.env := by rfl) (hpl : (backTo pos (starEach es X.env)).any (·.1) = false := by rfl) :
    PE X (.Call (.Name x p) (e :: es) [] pos) (tCall sp [] E0 t) := by
  obtain ⟨f, fd, h1, h2, h3, h4⟩ := c
  exact pe_call h4 (hr.mono hle) hg h1 h2 h3 .nil pass0 ha hdb he hpl
/-! ### heaps -/
def SameBut (a : Addr) (H H' : Hp) : Prop := ∀ b o, b ≠ a → H b = some o → H' b = some o
theorem SameBut.refl (a : Addr) (H : Hp) : SameBut a H H := fun _ _ _ h => h
theorem SameBut.trans {a : Addr} {H H1 H2 : Hp} (x : SameBut a H H1) (y : SameBut a H1 H2) : SameBut a H H2 := fun b o n h => y b o n (x b o n h)
theorem SameBut.of {a : Addr} {H H' : Hp} (s : Same H H') : SameBut a H H' := fun b o _ h => s b o h
theorem SameBut.upd {a : Addr} {H : Hp} {o : HO} : SameBut a H (upd H a o) := fun b _ n h => by
  rw [upd_ne n]
  exact h
theorem same_new {H : Hp} {p : Addr} {o : HO} (h : H p = none) : Same H (upd H p o) := fun b x e => by
  rw [upd_ne (ne_of_none e h)]
  exact e
theorem Same.tup {K : PySem.W.Frag} {H H' : Hp} {a : Addr} {xs : List V} (e : Same H H') (h : SqT K H a xs) : SqT K H' a xs := by
  rcases h with (h | ⟨o, h⟩) | h
  · exact .inl (.inl (e _ _ h))
  · exact .inl (.inr ⟨o, e _ _ h⟩)
  · exact .inr h
theorem a0 {α : Type} {x : α} {l : List α} : atI (x :: l) 0 = some x := atI_nat (j := 0) rfl
theorem a1 {α : Type} {x y : α} {l : List α} : atI (x :: y :: l) 1 = some y := atI_nat (j := 1) rfl
theorem a2 {α : Type} {x y z : α} {l : List α} : atI (x :: y :: z :: l) 2 = some z := atI_nat (j := 2) rfl
theorem toB {p : Prop} [Decidable p] (h : decide p = true) : p := of_decide_eq_true h
theorem toNB {p : Prop} [Decidable p] (h : ¬ decide p = true) : ¬ p := fun z => h (decide_eq_true z)
/-- a well: the digits left, a number that is mixed, how many were mixed (at most c) -/
def WellAt (H : Hp) (a : Addr) (c : Int) : Prop := ∃ x y z : Int, H a = some (.lst [.int x, .int y, .int z]) ∧ 0 ≤ y ∧ y < 2147483647 ∧ 0 ≤ z ∧ z ≤ c
theorem WellAt.mono {H : Hp} {a : Addr} {c d : Int} (h : WellAt H a c) (l : c ≤ d) : WellAt H a d := by
  obtain ⟨x, y, z, e, h1, h2, h3, h4⟩ := h
  exact ⟨x, y, z, e, h1, h2, h3, by omega⟩
theorem WellAt.same {H H' : Hp} {a : Addr} {c : Int} (h : WellAt H a c) (s : Same H H') : WellAt H' a c := by
  obtain ⟨x, y, z, e, h1, h2, h3, h4⟩ := h
  exact ⟨x, y, z, s _ _ e, h1, h2, h3, h4⟩
theorem WellAt.but {H H' : Hp} {a b : Addr} {c : Int} (h : WellAt H a c) (s : SameBut b H H') (n : a ≠ b) : WellAt H' a c := by
  obtain ⟨x, y, z, e, h1, h2, h3, h4⟩ := h
  exact ⟨x, y, z, s _ _ n e, h1, h2, h3, h4⟩
/-! ### promises of the law's helpers -/
def spCell (K : PySem.W.Frag) : Sp := fun vs H Q _ => ∃ (a : Addr) (ns : List Int) (k : Nat), vs = [.ref a, .int k] ∧ SqL K H a (ns.map V.int) ∧ Q (.int (ns.getD k 0)) H
def spWell : Sp := fun vs H Q _ => ∃ c : Int, vs = [.int c] ∧ ∀ p : Addr, H p = none → ∀ H', Same H H' → WellAt H' p 0 → Q (.ref p) H'
/-- a number from 0 to below m; the well has at most one more -/
def spDraw : Sp := fun vs H Q _ => ∃ (a : Addr) (c m : Int), vs = [.ref a, .int m] ∧ WellAt H a c ∧ c ≤ 1000000000 ∧ 0 < m ∧ m.natAbs < 2 ^ 9000 ∧
  ∀ (r : Int) (H' : Hp), 0 ≤ r → r < m → SameBut a H H' → (∀ b, H b = none → H' b = none) → WellAt H' a (c + 1) → Q (.int r) H'
def topS (i : Nat) : Stmt := PySem.Challenge.pw_echobound_k18_ladders_down_and_up.main.body.getD i (.Pass ⟨0, 0, 0, 0⟩)
abbrev s_is_whole : Stmt := topS 7
abbrev s_is_fraction : Stmt := topS 8
abbrev s_shared_divisor : Stmt := topS 9
abbrev s_lowest : Stmt := topS 10
abbrev s_plus : Stmt := topS 11
abbrev s_minus : Stmt := topS 12
abbrev s_times : Stmt := topS 13
abbrev s_divided : Stmt := topS 14
abbrev s_size_of : Stmt := topS 15
abbrev s_under : Stmt := topS 16
abbrev s_is_fractions : Stmt := topS 18
abbrev s_common_bottom : Stmt := topS 19
abbrev s_cleared : Stmt := topS 20
abbrev s_is_bottom : Stmt := topS 22
abbrev s_check_series : Stmt := topS 23
abbrev s_check_bottom : Stmt := topS 24
abbrev s_is_long : Stmt := topS 27
abbrev s_stepped_down : Stmt := topS 28
abbrev s_ladder_by_fractions : Stmt := topS 29
abbrev s_shortened : Stmt := topS 30
abbrev s_numbers_stepped_down : Stmt := topS 31
abbrev s_ladder_by_numbers : Stmt := topS 32
abbrev s_ladder : Stmt := topS 33
abbrev s_raised_by_fractions : Stmt := topS 34
abbrev s_raised_by_numbers : Stmt := topS 35
abbrev s_raised : Stmt := topS 36
abbrev s__law_cell_at : Stmt := topS 38
abbrev s__law_well : Stmt := topS 39
abbrev s__law_draw : Stmt := topS 40
abbrev s__law_one : Stmt := topS 41
abbrev s__law_low : Stmt := topS 42
abbrev s__law_sum : Stmt := topS 43
abbrev s__law_place : Stmt := topS 44
abbrev s__law_rung : Stmt := topS 45
abbrev s__law_raised : Stmt := topS 46
abbrev s__law_left : Stmt := topS 47
abbrev s__law_plain : Stmt := topS 48
abbrev s__law_by_first : Stmt := topS 49
abbrev s__law_right : Stmt := topS 50
abbrev s__law_bottom : Stmt := topS 51
abbrev s_law : Stmt := topS 52
section
variable {P : Program} {w : World} {K : PySem.W.Frag} {mg : Str → Option Value} {base : Heap}
end
end E1

namespace E1
open PySem PySem.Spec PyProof.Rows L2


end E1

namespace E1
open PySem PySem.Spec PyProof.Rows L2

theorem Vals.rev : ∀ {xs : List V} {us : List Value}, Vals xs us → Vals xs.reverse us.reverse
  | _, _, .nil => .nil
  | _, _, .cons r t => by
    rw [List.reverse_cons, List.reverse_cons]
    exact Vals.append (Vals.rev t) (.cons r .nil)
section
variable {P : Program} {w : World} {K : PySem.W.Frag} {mg : Str → Option Value} {base : Heap} {x : Str} {st : Stmt} {f : Addr} {fd : FuncData} {ps ks : List Str} {k n : Nat} {sp : Sp}
/-- a def without defaults: its arguments by keywords alone or behind others -/
theorem Fun.kbn {qual : Str} (F : Fun K x qual st f fd) {g : List Value → List Value → List Value} {gV : List V → List V → List V} (hrel : ∀ {vs : List V} {us : List Value} {zs : List V} {ws : List Value}, Vals vs us → Vals zs ws → Vals (gV vs zs) (g us ws))
    (h : ∀ (kV doc pm : Value) (an : Option Addr) (cdv ct : Value) (us ws : List Value), us.length = n → ws.length = ks.length → bindArgs (PySem.W.fnOf x qual (defArgs st) (defBody st) (defScope st) .none kV doc pm an cdv ct) ⟨us, ks.zip ws⟩ = pure (ps.zip (g us ws))) : KBn K fd ps n ks g gV := by
  rcases F.ex with ⟨_, _, v1, v2, v3, v4, v5, v6, _, same, _, _⟩
  subst same
  exact ⟨fun s us ws _ l1 l2 => .of_eq (h v1 v2 v3 v4 v5 v6 us ws l1 l2), hrel⟩
/-- a def with defaults, all arguments given -/
theorem FunD.kbn {qual : Str} {params : Arguments} {body : List Stmt} {scope : Scope} {dvs : List V} {kws : List (Str × V)} (F : FunD K x qual params body scope dvs kws f fd) (hd : dvs ≠ []) {g : List Value → List Value → List Value} {gV : List V → List V → List V} (hrel : ∀ {vs : List V} {us : List Value} {zs : List V} {ws : List Value}, Vals vs us → Vals zs ws → Vals (gV vs zs) (g us ws))
    (h : ∀ (T : Addr) (kV doc pm : Value) (an : Option Addr) (cdv ct : Value) (us ws its : List Value), us.length = n → ws.length = ks.length → its.length = dvs.length → ∃ k, bindArgs (PySem.W.fnOf x qual params body scope (.ref T) kV doc pm an cdv ct) ⟨us, ks.zip ws⟩ = seqItems? (.ref T) >>= k ∧ k (some its.toArray) = pure (ps.zip (g us ws))) : KBn K fd ps n ks g gV := by
  rcases F.ex with ⟨_, _, _, v1, v2, v3, v4, v5, v6, _, same, _, _, bare | given, _⟩
  · exact absurd bare.1 hd
  · rcases given with ⟨_, T, _, its, _, dv, at_, it, rel⟩
    subst same dv
    refine ⟨fun s us ws inn l1 l2 => BindsTo.of_looks fun M => ?_, hrel⟩
    rcases h T v1 v2 v3 v4 v5 v6 us ws its l1 l2 rel.length.symm with ⟨go, b1, b2⟩
    rw [b1]
    exact looks_items inn at_ it (.of_pure b2)
end

theorem fun_of {K : PySem.W.Frag} {x qual : Str} {st : Stmt} {f : Addr} {fd : FuncData} (F : FunD K x qual (defArgs st) (defBody st) (defScope st) [] [] f fd) : Fun K x qual st f fd := by
  obtain ⟨oc, od, dV, kV, doc, pm, an, cdv, ct, osl, e, lk, hcd, hd, _⟩ := F.ex
  rcases hd with ⟨_, rfl⟩ | ⟨n, _⟩
  · exact ⟨⟨oc, od, kV, doc, pm, an, cdv, ct, osl, e, lk, hcd⟩, F.kp⟩
  · exact absurd rfl n
theorem ex_at {l : List Bool} (h : (l.all id) = true) {i : Nat} {b : Bool} (e : l[i]? = some b) : b = true := List.all_eq_true.mp h b (List.mem_of_getElem? e)
theorem val_int {K : PySem.W.Frag} {a : Addr} {kvs : List (Str × He.Dv)} (h : He.valsB K a kvs = true) {i : Nat} {k : Str} {v : Int} (e : kvs[i]? = some (k, .int v)) : ∃ t, PySem.W.nsIn K a k = some (some (.int v t)) := by
  obtain ⟨u, e1, r⟩ := He.valsB_ok h (List.mem_of_getElem? e)
  obtain ⟨t, rfl⟩ := r
  exact ⟨t, e1⟩
/-- the head's facts, of these addresses -/
abbrev AlY : Type := He.AlT × Bool
def obsY (as : List Addr) (fa : List He.Fa) (fn : List He.DefD) (ts : List He.Tab) (ex : PySem.W.Frag → Bool) (g : Addr → Option Obj) : AlY := (He.obsT fa fn ts (He.frG g as), ex (He.frG g as))
structure SaysY (fa : List He.Fa) (fn : List He.DefD) (ts : List He.Tab) (ex : PySem.W.Frag → Bool) (w : World) (K : PySem.W.Frag) : Prop where
  t : He.SaysT fa fn ts w K
  more : ex K = true
def hookY (as : List Addr) (fa : List He.Fa) (fn : List He.DefD) (ts : List He.Tab) (ex : PySem.W.Frag → Bool) : PySem.W.Hook where
  α := AlY
  obs := fun s => obsY as fa fn ts ex s.heap.get?
  val := fun w => (He.valT fn ts w, true)
  says := fun w h => ∃ K : PySem.W.Frag, K.In h ∧ SaysY fa fn ts ex w K
  of := fun _ _ e => ⟨_, He.frG_in, congrArg (fun z : AlY => z.1) e, congrArg (fun z : AlY => z.2) e⟩
  keeps := fun _ _ _ ⟨K, hK, c⟩ k => ⟨K, PySem.W.Frag.In.keeps hK k, c⟩
theorem obsY_eq {as : List Addr} {fa : List He.Fa} {fn : List He.DefD} {ts : List He.Tab} {ex : PySem.W.Frag → Bool} {g : Addr → Option Obj} {s : Shared} (h : ∀ a, g a = s.heap.get? a) : obsY as fa fn ts ex g = (hookY as fa fn ts ex).obs s := by
  have e : g = s.heap.get? := funext h
  rw [e]
  rfl
def dd_is_whole : He.DefD := ⟨("is_whole", none), "is_whole", "is_whole", defArgs s_is_whole, defBody s_is_whole, defScope s_is_whole, [], []⟩
def dd_is_fraction : He.DefD := ⟨("is_fraction", none), "is_fraction", "is_fraction", defArgs s_is_fraction, defBody s_is_fraction, defScope s_is_fraction, [], []⟩
def dd_shared_divisor : He.DefD := ⟨("shared_divisor", none), "shared_divisor", "shared_divisor", defArgs s_shared_divisor, defBody s_shared_divisor, defScope s_shared_divisor, [], []⟩
def dd_lowest : He.DefD := ⟨("lowest", none), "lowest", "lowest", defArgs s_lowest, defBody s_lowest, defScope s_lowest, [], []⟩
def dd_is_fractions : He.DefD := ⟨("is_fractions", none), "is_fractions", "is_fractions", defArgs s_is_fractions, defBody s_is_fractions, defScope s_is_fractions, [], []⟩
def dd_common_bottom : He.DefD := ⟨("common_bottom", none), "common_bottom", "common_bottom", defArgs s_common_bottom, defBody s_common_bottom, defScope s_common_bottom, [], []⟩
def dd_cleared : He.DefD := ⟨("cleared", none), "cleared", "cleared", defArgs s_cleared, defBody s_cleared, defScope s_cleared, [], []⟩
def dd_is_bottom : He.DefD := ⟨("is_bottom", none), "is_bottom", "is_bottom", defArgs s_is_bottom, defBody s_is_bottom, defScope s_is_bottom, [], []⟩
def dd_check_series : He.DefD := ⟨("check_series", none), "check_series", "check_series", defArgs s_check_series, defBody s_check_series, defScope s_check_series, [], []⟩
def dd_check_bottom : He.DefD := ⟨("check_bottom", none), "check_bottom", "check_bottom", defArgs s_check_bottom, defBody s_check_bottom, defScope s_check_bottom, [], []⟩
def dd_is_long : He.DefD := ⟨("is_long", none), "is_long", "is_long", defArgs s_is_long, defBody s_is_long, defScope s_is_long, [], []⟩
def dd_shortened : He.DefD := ⟨("shortened", none), "shortened", "shortened", defArgs s_shortened, defBody s_shortened, defScope s_shortened, [], []⟩
def dd_numbers_stepped_down : He.DefD := ⟨("numbers_stepped_down", none), "numbers_stepped_down", "numbers_stepped_down", defArgs s_numbers_stepped_down, defBody s_numbers_stepped_down, defScope s_numbers_stepped_down, [], []⟩
def dd_ladder_by_numbers : He.DefD := ⟨("ladder_by_numbers", none), "ladder_by_numbers", "ladder_by_numbers", defArgs s_ladder_by_numbers, defBody s_ladder_by_numbers, defScope s_ladder_by_numbers, [], []⟩
def dd_ladder : He.DefD := ⟨("ladder", none), "ladder", "ladder", defArgs s_ladder, defBody s_ladder, defScope s_ladder, [], []⟩
def dd_raised_by_numbers : He.DefD := ⟨("raised_by_numbers", none), "raised_by_numbers", "raised_by_numbers", defArgs s_raised_by_numbers, defBody s_raised_by_numbers, defScope s_raised_by_numbers, [], []⟩
def dd_raised : He.DefD := ⟨("raised", none), "raised", "raised", defArgs s_raised, defBody s_raised, defScope s_raised, [], []⟩
def dd__law_cell_at : He.DefD := ⟨("_law_cell_at", none), "_law_cell_at", "_law_cell_at", defArgs s__law_cell_at, defBody s__law_cell_at, defScope s__law_cell_at, [], []⟩
def dd__law_well : He.DefD := ⟨("_law_well", none), "_law_well", "_law_well", defArgs s__law_well, defBody s__law_well, defScope s__law_well, [], []⟩
def dd__law_draw : He.DefD := ⟨("_law_draw", none), "_law_draw", "_law_draw", defArgs s__law_draw, defBody s__law_draw, defScope s__law_draw, [], []⟩
def dd__law_one : He.DefD := ⟨("_law_one", none), "_law_one", "_law_one", defArgs s__law_one, defBody s__law_one, defScope s__law_one, [], []⟩
def dd__law_low : He.DefD := ⟨("_law_low", none), "_law_low", "_law_low", defArgs s__law_low, defBody s__law_low, defScope s__law_low, [], []⟩
def dd__law_sum : He.DefD := ⟨("_law_sum", none), "_law_sum", "_law_sum", defArgs s__law_sum, defBody s__law_sum, defScope s__law_sum, [], []⟩
def dd__law_place : He.DefD := ⟨("_law_place", none), "_law_place", "_law_place", defArgs s__law_place, defBody s__law_place, defScope s__law_place, [], []⟩
def dd__law_rung : He.DefD := ⟨("_law_rung", none), "_law_rung", "_law_rung", defArgs s__law_rung, defBody s__law_rung, defScope s__law_rung, [], []⟩
def dd__law_raised : He.DefD := ⟨("_law_raised", none), "_law_raised", "_law_raised", defArgs s__law_raised, defBody s__law_raised, defScope s__law_raised, [], []⟩
def dd__law_left : He.DefD := ⟨("_law_left", none), "_law_left", "_law_left", defArgs s__law_left, defBody s__law_left, defScope s__law_left, [], []⟩
def dd__law_plain : He.DefD := ⟨("_law_plain", none), "_law_plain", "_law_plain", defArgs s__law_plain, defBody s__law_plain, defScope s__law_plain, [], []⟩
def dd__law_by_first : He.DefD := ⟨("_law_by_first", none), "_law_by_first", "_law_by_first", defArgs s__law_by_first, defBody s__law_by_first, defScope s__law_by_first, [], []⟩
def dd__law_right : He.DefD := ⟨("_law_right", none), "_law_right", "_law_right", defArgs s__law_right, defBody s__law_right, defScope s__law_right, [], []⟩
def dd__law_bottom : He.DefD := ⟨("_law_bottom", none), "_law_bottom", "_law_bottom", defArgs s__law_bottom, defBody s__law_bottom, defScope s__law_bottom, [], []⟩
def dd_law : He.DefD := ⟨("law", none), "law", "law", defArgs s_law, defBody s_law, defScope s_law, [], []⟩
def FN_0 : List He.DefD := [dd_is_whole, dd_is_fraction, dd_shared_divisor, dd_lowest, dd_is_fractions, dd_common_bottom, dd_cleared, dd_is_bottom, dd_check_series, dd_check_bottom, dd_is_long, dd_shortened, dd_numbers_stepped_down, dd_ladder_by_numbers, dd_ladder, dd_raised_by_numbers, dd_raised, dd__law_cell_at, dd__law_well, dd__law_draw]
def FN_1 : List He.DefD := [dd__law_one, dd__law_low, dd__law_sum, dd__law_place, dd__law_rung, dd__law_raised, dd__law_left, dd__law_plain, dd__law_by_first, dd__law_right, dd__law_bottom, dd_law]
def FN : List He.DefD := FN_0 ++ (FN_1)
def FA_0 : List He.Fa := [.glo "is_whole", .glo "is_fraction", .glo "shared_divisor", .glo "lowest", .glo "is_fractions", .glo "common_bottom", .glo "cleared", .glo "is_bottom", .glo "check_series", .glo "check_bottom", .glo "is_long", .glo "shortened", .glo "numbers_stepped_down", .glo "ladder_by_numbers", .glo "ladder", .glo "raised_by_numbers", .glo "raised", .glo "_law_cell_at", .glo "_law_well", .glo "_law_draw"]
def FA_1 : List He.Fa := [.glo "_law_one", .glo "_law_low", .glo "_law_sum", .glo "_law_place", .glo "_law_rung", .glo "_law_raised", .glo "_law_left", .glo "_law_plain", .glo "_law_by_first", .glo "_law_right", .glo "_law_bottom", .glo "law", .int "LONGEST_COMMON" 40000, .glo "NOUGHT", .free "isinstance", .free "int", .free "bool", .free "tuple", .free "len", .free "abs"]
def FA_2 : List He.Fa := [.free "list", .free "all", .free "zip", .free "range"]
def FA : List He.Fa := FA_0 ++ (FA_1 ++ (FA_2))
def TS_0 : List He.Tab := []
def TS : List He.Tab := TS_0
def EXL_0 (K : PySem.W.Frag) : List Bool := [He.tupB K "NOUGHT" [.int 0, .int 1]]
def EXL (K : PySem.W.Frag) : List Bool := EXL_0 K
def EXB (K : PySem.W.Frag) : Bool := (EXL K).all id
end E1

namespace HX
open PySem PySem.W PySem.Calls PyProof.Rows
abbrev RR : OpenRow := OpenLaw.row PySem.Challenge.rw_echobound_k18_ladders_down_and_up
abbrev qv : Program := view RR.prog [52]
def names_0 : List PySem.Str := [("__name__" : PySem.Str), ("EchoError" : PySem.Str), ("NoFraction" : PySem.Str), ("NoSeries" : PySem.Str), ("NOUGHT" : PySem.Str), ("ONE" : PySem.Str), ("is_whole" : PySem.Str), ("is_fraction" : PySem.Str), ("shared_divisor" : PySem.Str), ("lowest" : PySem.Str), ("plus" : PySem.Str), ("minus" : PySem.Str), ("times" : PySem.Str), ("divided" : PySem.Str), ("size_of" : PySem.Str), ("under" : PySem.Str), ("is_fractions" : PySem.Str), ("common_bottom" : PySem.Str), ("cleared" : PySem.Str), ("is_bottom" : PySem.Str)]
def names_1 : List PySem.Str := [("check_series" : PySem.Str), ("check_bottom" : PySem.Str), ("LONGEST_COMMON" : PySem.Str), ("is_long" : PySem.Str), ("stepped_down" : PySem.Str), ("ladder_by_fractions" : PySem.Str), ("shortened" : PySem.Str), ("numbers_stepped_down" : PySem.Str), ("ladder_by_numbers" : PySem.Str), ("ladder" : PySem.Str), ("raised_by_fractions" : PySem.Str), ("raised_by_numbers" : PySem.Str), ("raised" : PySem.Str), ("_law_cell_at" : PySem.Str), ("_law_well" : PySem.Str), ("_law_draw" : PySem.Str), ("_law_one" : PySem.Str), ("_law_low" : PySem.Str), ("_law_sum" : PySem.Str), ("_law_place" : PySem.Str)]
def names_2 : List PySem.Str := [("_law_rung" : PySem.Str), ("_law_raised" : PySem.Str), ("_law_left" : PySem.Str), ("_law_plain" : PySem.Str), ("_law_by_first" : PySem.Str), ("_law_right" : PySem.Str), ("_law_bottom" : PySem.Str)]
def names : List PySem.Str := names_0 ++ (names_1 ++ (names_2))
def AS_0 : List Addr := [3, 6, 4, 24, 37, 49, 52, 53, 60, 67, 74, 81, 88, 95, 102, 109, 116, 123, 128, 135, 140, 147, 154, 161, 168, 173, 180, 185, 190, 195]
def AS_1 : List Addr := [200, 205, 210, 217, 224, 231, 238, 245, 252, 259, 266, 273, 278, 283, 288, 293, 298, 303, 308, 0, 23, 36, 48, 59, 66, 73, 80, 87, 94, 101]
def AS_2 : List Addr := [108, 115, 122, 127, 134, 139, 146, 153, 160, 167, 172, 179, 184, 189, 194, 199, 204, 209, 216, 223, 230, 237, 244, 251, 258, 265, 272, 277, 282, 287]
def AS_3 : List Addr := [292, 297, 302, 307, 58, 65, 72, 79, 86, 93, 100, 107, 114, 121, 126, 133, 138, 145, 152, 159, 166, 171, 178, 183, 188, 193, 198, 203, 208, 215]
def AS_4 : List Addr := [222, 229, 236, 243, 250, 257, 264, 271, 276, 281, 286, 291, 296, 301, 306, 2]
def AS : List Addr := AS_0 ++ (AS_1 ++ (AS_2 ++ (AS_3 ++ (AS_4))))
abbrev hk : PySem.W.Hook := E1.hookY AS E1.FA E1.FN E1.TS E1.EXB
def ob (s : PySem.W.SharedT) : E1.AlY := E1.obsY AS E1.FA E1.FN E1.TS E1.EXB (HandSHeadRun.getT s)
theorem ob_eq (s : PySem.W.SharedT) : ob s = hk.obs s.abs := E1.obsY_eq (HandSHeadRun.getT_eq s)
set_option maxRecDepth 100000 in
set_option maxHeartbeats 0 in
theorem run_f (w : World) : HandSHeadRun.RunEq RR qv hk ob 1946 names (w.withFollow "special-get-raises" false) := fun os => by kernel_rfl
set_option maxRecDepth 100000 in
set_option maxHeartbeats 0 in
theorem run_t (w : World) : HandSHeadRun.RunEq RR qv hk ob 1946 names (w.withFollow "special-get-raises" true) := fun os => by kernel_rfl
theorem run (w : World) : HandSHeadRun.RunEq RR qv hk ob 1946 names w :=
  byRow2 "special-get-raises" (P := fun w => HandSHeadRun.RunEq RR qv hk ob 1946 names w) run_f run_t w
end HX

namespace E1
open PySem PySem.Spec PyProof.Rows L2

def CalD (P : Program) (w : World) (K : PySem.W.Frag) (mg : Str → Option Value) (base : Heap) (k : Nat) (x : Str) (ps : List Str) (dvs : List V) (sp : Sp) : Prop :=
  ∃ (f : Addr) (fd : FuncData) (ds : List Value), mg x = some (.ref f) ∧ PySem.W.keepIn K (.ref f) = true ∧ Vals dvs ds ∧ Binds K fd ps ds ∧ FnOk P w K mg base CX0 k f fd ps sp
theorem pe_cald {X : Cx} {k j : Nat} {x : Str} {ps : List Str} {dvs : List V} {sp : Sp} {e : Expr} {es : List Expr} {t : TA} {p pos : Pos} (c : CalD X.prog X.w X.K X.mg X.base k x ps dvs sp) (hr : Room j X.A) (ha : PA X (e :: es) t) (hle : k ≤ j := by decide) (hg : Gl X x := by rfl)
    (hdb : (x == ("__debug__" : Str)) = false := by decide) (he : starEach (e :: es) X.env = (false, eval e X.env) :: starEach es X.env := by rfl) (hpl : (backTo pos (starEach es X.env)).any (·.1) = false := by rfl) :
    PE X (.Call (.Name x p) (e :: es) [] pos) (tCall sp dvs E0 t) := by
  obtain ⟨f, fd, ds, h1, h2, hd, h3, h4⟩ := c
  exact pe_call h4 (hr.mono hle) hg h1 h2 h3 hd pass0 ha hdb he hpl
def CalK (P : Program) (w : World) (K : PySem.W.Frag) (mg : Str → Option Value) (base : Heap) (k : Nat) (x : Str) (ps : List Str) (n : Nat) (ks : List Str) (gV : List V → List V → List V) (sp : Sp) : Prop :=
  ∃ (f : Addr) (fd : FuncData) (g : List Value → List Value → List Value), mg x = some (.ref f) ∧ PySem.W.keepIn K (.ref f) = true ∧ KBn K fd ps n ks g gV ∧ FnOk P w K mg base CX0 k f fd ps sp
theorem pe_calk {X : Cx} {k j n : Nat} {x : Str} {ps ks : List Str} {gV : List V → List V → List V} {sp : Sp} {e : Expr} {es : List Expr} {kws : List Keyword} {t tk : TA} {p pos : Pos} (c : CalK X.prog X.w X.K X.mg X.base k x ps n ks gV sp) (hr : Room j X.A)
    (ha : PA X (e :: es) t) (hkw : PK X kws tk) (hle : k ≤ j := by decide) (hg : Gl X x := by rfl) (hall : (backToKw pos (keywordEach kws X.env)).all (·.1.isSome) = true := by rfl) (hks : (backToKw pos (keywordEach kws X.env)).filterMap (·.1) = ks := by rfl)
    (hdb : (x == ("__debug__" : Str)) = false := by decide) (he : starEach (e :: es) X.env = (false, eval e X.env) :: starEach es X.env := by rfl)
    (hpl : ((backTo pos (starEach (e :: es) X.env)).any (·.1) || (backToKw pos (keywordEach kws X.env)).any (·.1.isNone)) = false := by rfl) :
    PE X (.Call (.Name x p) (e :: es) kws pos) (tCallN n ks.length sp gV E0 t tk) := by
  obtain ⟨f, fd, g, h1, h2, h3, h4⟩ := c
  exact pe_callN h4 (hr.mono hle) hg h1 h2 h3 pass0 ha hkw hall hks hdb he hpl
theorem pe_calk0 {X : Cx} {k j : Nat} {x : Str} {ps ks : List Str} {gV : List V → List V → List V} {sp : Sp} {kws : List Keyword} {tk : TA} {p pos : Pos} (c : CalK X.prog X.w X.K X.mg X.base k x ps 0 ks gV sp) (hr : Room j X.A)
    (hkw : PK X kws tk) (hle : k ≤ j := by decide) (hg : Gl X x := by rfl) (hall : (backToKw pos (keywordEach kws X.env)).all (·.1.isSome) = true := by rfl) (hks : (backToKw pos (keywordEach kws X.env)).filterMap (·.1) = ks := by rfl)
    (hdb : (x == ("__debug__" : Str)) = false := by decide)
    (hpl : ((backTo pos (starEach [] X.env)).any (·.1) || (backToKw pos (keywordEach kws X.env)).any (·.1.isNone)) = false := by rfl) :
    PE X (.Call (.Name x p) [] kws pos) (tCallN 0 ks.length sp gV E0 tNil tk) := by
  obtain ⟨f, fd, g, h1, h2, h3, h4⟩ := c
  refine ⟨fun pins s σ H Q I h => ?_⟩
  refine wpAny_Call_Name_kw (ld_glob I hg h1 ?_ hdb)
  refine PySem.W.callWith_KW0 (h₀ := X.base) I.ok.mod.kin h2 hall (thn (hkw.run pos pins s σ H _ I h) fun ws s2 ⟨zs, H2, I2, rz, l1, l2, q2⟩ => ⟨I2.kIn, ?_⟩) hpl
  rw [hks]
  exact run_fnN (vs := []) (us := []) h4 (hr.mono hle) h3 pass0 I2 .nil rz l1 l2 q2
/-- a class handed to isinstance -/
theorem isiB {K : PySem.W.Frag} {H : Hp} {x : V} {a b : String} {r : Bool} {Q : VK} (ty : TyX K H x (.type a)) (k : kitB a b = some r) (q : Q (.bl r) H) : rIsi K [x, .ty b] H Q :=
  ⟨x, .ty b, .type a, .type b, r, rfl, .ty _, ty, kit_ty k, q⟩
/-- whether a thing is a whole number -/
def WholeIs (K : PySem.W.Frag) (H : Hp) (x : V) (b : Bool) : Prop := (∃ i, x = .int i ∧ b = true) ∨ (∃ c, x = .bl c ∧ b = false) ∨ (b = false ∧ ∃ t : String, TyX K H x (.type t) ∧ kitB t "int" = some false)
theorem WholeIs.int {K : PySem.W.Frag} {H : Hp} (i : Int) : WholeIs K H (.int i) true := .inl ⟨i, rfl, rfl⟩
def spWhole (K : PySem.W.Frag) : Sp := fun vs H Q _ => ∃ (x : V) (b : Bool), vs = [x] ∧ WholeIs K H x b ∧ Q (.bl b) H
/-! ### the mathematics of fractions in lowest terms -/
def gI (t b : Int) : Int := (Int.gcd t b : Nat)
def lowT (t b : Int) : Int := (if b < 0 then -t else t) / gI t b
def lowB (t b : Int) : Int := (if b < 0 then -b else b) / gI t b
theorem gI_neg (t b : Int) : gI (-t) (-b) = gI t b := by
  unfold gI
  rw [Int.neg_gcd, Int.gcd_neg]
theorem gI_pos {t b : Int} (h : b ≠ 0) : 0 < gI t b := by
  have : 0 < Int.gcd t b := Int.gcd_pos_of_ne_zero_right t h
  unfold gI
  omega
theorem gI_le {t b : Int} (h : b ≠ 0) : (gI t b).natAbs ≤ b.natAbs := by
  have d : Int.gcd t b ∣ b.natAbs := Nat.gcd_dvd_right t.natAbs b.natAbs
  have := Nat.le_of_dvd (by omega) d
  unfold gI
  omega
def spShared : Sp := fun vs H Q _ => ∃ t b : Int, vs = [.int t, .int b] ∧ 0 ≤ b ∧ Q (.int (gI t b)) H
def spLow : Sp := fun vs H Q _ => ∃ t b : Int, vs = [.int t, .int b] ∧ b ≠ 0 ∧ b.natAbs < 2 ^ 4000 ∧ ∀ p, H p = none → Q (.ref p) (upd H p (.tup [.int (lowT t b), .int (lowB t b)]))
/-- two fractions at two places; the tops and bottoms told by f and d -/
def spTwo (K : PySem.W.Frag) (pre : Int → Int → Int → Int → Prop) (f d : Int → Int → Int → Int → Int) : Sp := fun vs H Q _ => ∃ (a c : Addr) (t u v x : Int), vs = [.ref a, .ref c] ∧ SqT K H a [.int t, .int u] ∧ SqT K H c [.int v, .int x] ∧
  pre t u v x ∧ 0 < u ∧ 0 < x ∧ t.natAbs < 2 ^ 1900 ∧ u.natAbs < 2 ^ 1900 ∧ v.natAbs < 2 ^ 1900 ∧ x.natAbs < 2 ^ 1900 ∧ ∀ p, H p = none → Q (.ref p) (upd H p (.tup [.int (lowT (f t u v x) (d t u v x)), .int (lowB (f t u v x) (d t u v x))]))
def spUnder (K : PySem.W.Frag) : Sp := fun vs H Q _ => ∃ (a c : Addr) (t u v x : Int), vs = [.ref a, .ref c] ∧ SqT K H a [.int t, .int u] ∧ SqT K H c [.int v, .int x] ∧
  t.natAbs < 2 ^ 1900 ∧ u.natAbs < 2 ^ 1900 ∧ v.natAbs < 2 ^ 1900 ∧ x.natAbs < 2 ^ 1900 ∧ Q (.bl (decide (t * x < v * u))) H
def absI (t : Int) : Int := if t < 0 then -t else t
def spSize (K : PySem.W.Frag) : Sp := fun vs H Q _ => ∃ (a : Addr) (t u : Int), vs = [.ref a] ∧ SqT K H a [.int t, .int u] ∧ ∀ p, H p = none → Q (.ref p) (upd H p (.tup [.int (absI t), .int u]))
def twoT (m : Int) : Int := if m < 0 then 1 else 2 ^ m.toNat
def twoB (m : Int) : Int := if m < 0 then 2 ^ (-m).toNat else 1
def spTwoTo : Sp := fun vs H Q _ => ∃ m : Int, vs = [.int m] ∧ -400 ≤ m ∧ m ≤ 400 ∧ ∀ p, H p = none → Q (.ref p) (upd H p (.tup [.int (twoT m), .int (twoB m)]))
def spIsFrac : Sp := fun vs H Q _ => ∃ (a : Addr) (t u : Int), vs = [.ref a] ∧ H a = some (.tup [.int t, .int u]) ∧ 1 ≤ u ∧ Q (.bl (decide (gI t u = 1))) H
theorem up {x : Nat} {a b : Nat} (h : x < 2 ^ a) (l : a ≤ b) : x < 2 ^ b := Nat.lt_of_lt_of_le h (Nat.pow_le_pow_right (by decide) l)
theorem same_but {H H1 H2 : Hp} {p : Addr} (s : Same H H1) (b : SameBut p H1 H2) (hp : H p = none) : Same H H2 := fun a o e => b a o (ne_of_none e hp) (s a o e)
theorem iteN {c A B : Prop} [Decidable c] (h1 : ¬ c → A) (h2 : c → B) : if (!decide c) = true then A else B := by
  by_cases h : c
  · rw [decide_eq_true h]
    exact iteF (h2 h)
  · rw [decide_eq_false h]
    exact iteT (h1 h)
theorem Same.free {H H' : Hp} {p : Addr} (s : Same H H') (h : H' p = none) : H p = none := by
  cases e : H p with
  | none => rfl
  | some o =>
    rw [s _ _ e] at h
    cases h
structure Zs (mg : Str → Option Value) : Prop where
  isinstance : mg "isinstance" = none
  int : mg "int" = none
  bool : mg "bool" = none
  tuple : mg "tuple" = none
  len : mg "len" = none
  abs : mg "abs" = none
  list : mg "list" = none
  all : mg "all" = none
  zip : mg "zip" = none
  range : mg "range" = none
section
variable {P : Program} {w : World} {K : PySem.W.Frag} {mg : Str → Option Value} {base : Heap}
theorem sc_is_whole : FnScope ["thing"] ["thing"] (defScope s_is_whole) := ⟨rfl, rfl, rfl, by decide +kernel, rfl, by decide +kernel, by decide +kernel⟩
theorem ok_is_whole {f : Addr} {fd : FuncData} {k : Nat} (F : Fun K "is_whole" "is_whole" s_is_whole f fd) (z : Zs mg) : FnOk P w K mg base CX0 (k + 1) f fd ["thing"] (spWhole K) := by
  refine F.ok sc_is_whole (fun vs H Q E h => ?_) (fun cdv A outer s H vs Q E hr h => ?_)
  · obtain ⟨x, b, rfl, _⟩ := h
    rfl
  · obtain ⟨x, b, rfl, hw, q⟩ := h
    refine ⟨_, (pss_one (ps_ret (pe_and (pe_callB call_isi (by rfl) z.isinstance (by decide +kernel) (pa_cons (pv 0) (pa_cons (pe_bltn (v := .ty "int") (by rfl) z.int (by decide +kernel) rfl) pa_nil))) (pe_one (pe_not (pe_callB call_isi (by rfl) z.isinstance (by decide +kernel) (pa_cons (pv 0) (pa_cons (pe_bltn (v := .ty "bool") (by rfl) z.bool (by decide +kernel) rfl) pa_nil)))))))), ?_⟩
    rcases hw with ⟨i, rfl, rfl⟩ | ⟨c, rfl, rfl⟩ | ⟨rfl, t, ty, kt⟩
    · exact ⟨_, rfl, _, .ty "int", _, _, true, rfl, .ty _, .base (.int i), kit_ty (by decide +kernel), _, rfl, iteT ⟨_, rfl, _, .ty "bool", _, _, false, rfl, .ty _, .base (.int i), kit_ty (by decide +kernel), _, rfl, q⟩⟩
    · exact ⟨_, rfl, _, .ty "int", _, _, true, rfl, .ty _, .base (.bl c), kit_ty (by decide +kernel), _, rfl, iteT ⟨_, rfl, _, .ty "bool", _, _, true, rfl, .ty _, .base (.bl c), kit_ty (by decide +kernel), _, rfl, q⟩⟩
    · exact ⟨_, rfl, _, .ty "int", _, _, false, rfl, .ty _, ty, kit_ty kt, _, rfl, iteF q⟩
theorem sc_shared_divisor : FnScope ["top", "bottom", "one", "other"] ["top", "bottom"] (defScope s_shared_divisor) := ⟨rfl, rfl, rfl, by decide +kernel, rfl, by decide +kernel, by decide +kernel⟩
theorem ok_shared_divisor {f : Addr} {fd : FuncData} {k : Nat} (F : Fun K "shared_divisor" "shared_divisor" s_shared_divisor f fd) (z : Zs mg) : FnOk P w K mg base CX0 (k + 1) f fd ["top", "bottom"] spShared := by
  refine F.ok sc_shared_divisor (fun vs H Q E h => ?_) (fun cdv A outer s H vs Q E hr h => ?_)
  · obtain ⟨t, b, rfl, _⟩ := h
    rfl
  · obtain ⟨t, b, rfl, hb, q⟩ := h
    refine ⟨_, (pss_cons (ps_set (i := 2) sc_shared_divisor.nd rfl (.inl rfl) (pe_callB call_abs (by rfl) z.abs (by decide +kernel) (pa_cons (pv 0) pa_nil)))
      (pss_cons (ps_set (i := 3) sc_shared_divisor.nd rfl (.inl rfl) (pv 1))
      (pss_cons (ps_while PassesOwn.never (pt_truth (pv 3) (by intro _; rfl)) (pss_one (ps_par (i := 2) (j := 3) (by rfl) sc_shared_divisor.nd rfl rfl (by decide) rfl rfl (pa_cons (pv 3) (pa_cons (pe_op op_mod (pv 2) (pv 3)) pa_nil)) (by rfl))))
      (pss_one (ps_ret (pv 2)))))), ?_⟩
    refine ⟨_, rfl, _, rfl, ?_⟩
    refine ⟨_, rfl, ?_⟩
    dsimp only [gName, tSeq]
    refine while_by (fun σ H' => H' = H ∧ ∃ m n : Nat, σ = [some (.int t), some (.int b), some (.int (m : Int)), some (.int (n : Int))] ∧ Nat.gcd m n = Int.gcd t b)
      (fun σ _ => match σ with | [_, _, _, some (.int r)] => r.toNat | _ => 0) ⟨rfl, t.natAbs, b.natAbs, ?_, rfl⟩ (fun σ H1 hP => ?_) (fun σ H Q Q' m hh => ?_)
    · have e1 : (if t < 0 then -t else t) = (t.natAbs : Int) := by split <;> omega
      have e2 : b = (b.natAbs : Int) := by omega
      show [some (V.int t), some (V.int b), some (V.int (if t < 0 then -t else t)), some (V.int b)] = _
      rw [e1, ← e2]
    · obtain ⟨rfl, m, n, rfl, hg⟩ := hP
      refine ⟨_, rfl, _, rfl, ?_⟩
      by_cases hn : n = 0
      · subst hn
        have e : ((((0 : Nat) : Int)) != 0) = false := rfl
        rw [e]
        refine iteF ⟨_, rfl, ?_⟩
        rw [Nat.gcd_zero_right] at hg
        have e2 : (m : Int) = gI t b := by
          unfold gI
          rw [hg]
        rw [e2]
        exact q
      · have e : ((n : Int) != 0) = true := by
          rw [bne_iff_ne]
          omega
        rw [e]
        refine iteT ⟨_, rfl, _, rfl, _, rfl, _, _, rfl, rfl, (by omega), _, _, rfl, ⟨⟨rfl, n, m % n, rfl, ?_⟩, ?_⟩⟩
        · rw [← hg, Nat.gcd_comm n (m % n), ← Nat.gcd_rec n m, Nat.gcd_comm]
        · show ((m : Int) % (n : Int)).toNat < ((n : Int)).toNat
          have := Int.emod_lt_of_pos (m : Int) (show (0 : Int) < n by omega)
          have := Int.emod_nonneg (m : Int) (show (n : Int) ≠ 0 by omega)
          omega
    · obtain ⟨v, e, kk, tv, hq⟩ := hh
      exact ⟨v, e, kk, tv, m _ _ hq⟩
theorem sc_lowest : FnScope ["top", "bottom", "shared"] ["top", "bottom"] (defScope s_lowest) := ⟨rfl, rfl, rfl, by decide +kernel, rfl, by decide +kernel, by decide +kernel⟩
theorem ok_lowest {f : Addr} {fd : FuncData} (F : Fun K "lowest" "lowest" s_lowest f fd) (c_shared_divisor : Cal P w K mg base 1 "shared_divisor" ["top", "bottom"] spShared) : FnOk P w K mg base CX0 2 f fd ["top", "bottom"] spLow := by
  refine F.ok sc_lowest (fun vs H Q E h => ?_) (fun cdv A outer s H vs Q E hr h => ?_)
  · obtain ⟨t, b, rfl, _⟩ := h
    rfl
  · obtain ⟨t, b, rfl, hb, hl, q⟩ := h
    refine ⟨_, (pss_cons (ps_if (pt_cmpR op_lt (pv 1) pe_int (nomark _)) (pss_cons (ps_set (i := 0) sc_lowest.nd rfl (.inl rfl) (pe_un un_neg (pv 0)))
      (pss_one (ps_set (i := 1) sc_lowest.nd rfl (.inl rfl) (pe_un un_neg (pv 1))))) pss_nil)
      (pss_cons (ps_set (i := 2) sc_lowest.nd rfl (.inl rfl) (pe_cal c_shared_divisor hr (pa_cons (pv 0) (pa_cons (pv 1) pa_nil))))
      (pss_one (ps_ret (pe_tup (pa_cons (pe_op op_fdivW (pv 0) (pv 2)) (pa_cons (pe_op op_fdivW (pv 1) (pv 2)) pa_nil))))))), ?_⟩
    have g0 := gI_pos (t := t) hb
    have g1 : (gI t b).natAbs < 2 ^ 4000 := Nat.lt_of_le_of_lt (gI_le hb) hl
    refine ⟨_, rfl, _, _, rfl, rfl, _, rfl, ite2 (fun c => ?_) (fun c => ?_)⟩
    · have hc := toB c
      refine ⟨_, rfl, _, rfl, ?_⟩
      refine ⟨_, rfl, _, rfl, ?_⟩
      refine ⟨_, rfl, _, rfl, -t, -b, rfl, by omega, ?_⟩
      rw [gI_neg]
      refine ⟨_, rfl, _, rfl, _, _, rfl, rfl, wide_div g0 g1 (by decide) (by decide), _, rfl, _, rfl, _, _, rfl, rfl, wide_div g0 g1 (by decide) (by decide), (by show 2 ≤ sizeLine; decide), fun p hp => ?_⟩
      have := q p hp
      unfold lowT lowB at this
      rw [if_pos hc, if_pos hc] at this
      exact this
    · have hc := toNB c
      refine ⟨_, rfl, _, rfl, t, b, rfl, by omega, ?_⟩
      refine ⟨_, rfl, _, rfl, _, _, rfl, rfl, wide_div g0 g1 (by decide) (by decide), _, rfl, _, rfl, _, _, rfl, rfl, wide_div g0 g1 (by decide) (by decide), (by show 2 ≤ sizeLine; decide), fun p hp => ?_⟩
      have := q p hp
      unfold lowT lowB at this
      rw [if_neg hc, if_neg hc] at this
      exact this
theorem sc_plus : FnScope ["one", "other"] ["one", "other"] (defScope s_plus) := ⟨rfl, rfl, rfl, by decide +kernel, rfl, by decide +kernel, by decide +kernel⟩
theorem ok_plus {f : Addr} {fd : FuncData} (F : Fun K "plus" "plus" s_plus f fd) (c_lowest : Cal P w K mg base 2 "lowest" ["top", "bottom"] spLow) : FnOk P w K mg base CX0 3 f fd ["one", "other"] (spTwo K (fun t u v x => True) (fun t u v x => t * x + v * u) (fun t u v x => u * x)) := by
  refine F.ok sc_plus (fun vs H Q E h => ?_) (fun cdv A outer s H vs Q E hr h => ?_)
  · obtain ⟨a, c, t, u, v, x, rfl, _⟩ := h
    rfl
  · obtain ⟨a, c, t, u, v, x, rfl, ha, hc, pr, hu, hx, b1, b2, b3, b4, q⟩ := h
    refine ⟨_, (pss_one (ps_ret (pe_cal c_lowest hr (pa_cons (pe_op op_add (pe_op op_mulW (pe_ix ix_tup (pv 0) pe_int (fun _ _ => rfl)) (pe_ix ix_tup (pv 1) pe_int (fun _ _ => rfl))) (pe_op op_mulW (pe_ix ix_tup (pv 1) pe_int (fun _ _ => rfl)) (pe_ix ix_tup (pv 0) pe_int (fun _ _ => rfl)))) (pa_cons (pe_op op_mulW (pe_ix ix_tup (pv 0) pe_int (fun _ _ => rfl)) (pe_ix ix_tup (pv 1) pe_int (fun _ _ => rfl))) pa_nil))))), ?_⟩
    have nz : u * x ≠ 0 := Int.mul_ne_zero (by omega) (by omega)
    refine ⟨_, rfl, a, _, 0, .int t, rfl, rfl, ha, a0, _, rfl, c, _, 1, .int x, rfl, rfl, hc, a1, _, _, rfl, rfl, wide_mul b1 b4 (by decide) (by decide) (by decide), _, rfl, c, _, 0, .int v, rfl, rfl, hc, a0, _, rfl, a, _, 1, .int u, rfl, rfl, ha, a1, _, _, rfl, rfl, wide_mul b3 b2 (by decide) (by decide) (by decide), _, _, rfl, rfl, _, rfl, a, _, 1, .int u, rfl, rfl, ha, a1, _, rfl, c, _, 1, .int x, rfl, rfl, hc, a1, _, _, rfl, rfl, wide_mul b2 b4 (by decide) (by decide) (by decide), _, _, rfl, nz, ?_, q⟩
    exact Nat.lt_of_lt_of_le (wide_lt b2 b4) (Nat.pow_le_pow_right (by decide) (by decide))
theorem sc_minus : FnScope ["one", "other"] ["one", "other"] (defScope s_minus) := ⟨rfl, rfl, rfl, by decide +kernel, rfl, by decide +kernel, by decide +kernel⟩
theorem ok_minus {f : Addr} {fd : FuncData} (F : Fun K "minus" "minus" s_minus f fd) (c_lowest : Cal P w K mg base 2 "lowest" ["top", "bottom"] spLow) : FnOk P w K mg base CX0 3 f fd ["one", "other"] (spTwo K (fun t u v x => True) (fun t u v x => t * x - v * u) (fun t u v x => u * x)) := by
  refine F.ok sc_minus (fun vs H Q E h => ?_) (fun cdv A outer s H vs Q E hr h => ?_)
  · obtain ⟨a, c, t, u, v, x, rfl, _⟩ := h
    rfl
  · obtain ⟨a, c, t, u, v, x, rfl, ha, hc, pr, hu, hx, b1, b2, b3, b4, q⟩ := h
    refine ⟨_, (pss_one (ps_ret (pe_cal c_lowest hr (pa_cons (pe_op op_sub (pe_op op_mulW (pe_ix ix_tup (pv 0) pe_int (fun _ _ => rfl)) (pe_ix ix_tup (pv 1) pe_int (fun _ _ => rfl))) (pe_op op_mulW (pe_ix ix_tup (pv 1) pe_int (fun _ _ => rfl)) (pe_ix ix_tup (pv 0) pe_int (fun _ _ => rfl)))) (pa_cons (pe_op op_mulW (pe_ix ix_tup (pv 0) pe_int (fun _ _ => rfl)) (pe_ix ix_tup (pv 1) pe_int (fun _ _ => rfl))) pa_nil))))), ?_⟩
    have nz : u * x ≠ 0 := Int.mul_ne_zero (by omega) (by omega)
    refine ⟨_, rfl, a, _, 0, .int t, rfl, rfl, ha, a0, _, rfl, c, _, 1, .int x, rfl, rfl, hc, a1, _, _, rfl, rfl, wide_mul b1 b4 (by decide) (by decide) (by decide), _, rfl, c, _, 0, .int v, rfl, rfl, hc, a0, _, rfl, a, _, 1, .int u, rfl, rfl, ha, a1, _, _, rfl, rfl, wide_mul b3 b2 (by decide) (by decide) (by decide), _, _, rfl, rfl, _, rfl, a, _, 1, .int u, rfl, rfl, ha, a1, _, rfl, c, _, 1, .int x, rfl, rfl, hc, a1, _, _, rfl, rfl, wide_mul b2 b4 (by decide) (by decide) (by decide), _, _, rfl, nz, ?_, q⟩
    exact Nat.lt_of_lt_of_le (wide_lt b2 b4) (Nat.pow_le_pow_right (by decide) (by decide))
theorem sc_times : FnScope ["one", "other"] ["one", "other"] (defScope s_times) := ⟨rfl, rfl, rfl, by decide +kernel, rfl, by decide +kernel, by decide +kernel⟩
theorem ok_times {f : Addr} {fd : FuncData} (F : Fun K "times" "times" s_times f fd) (c_lowest : Cal P w K mg base 2 "lowest" ["top", "bottom"] spLow) : FnOk P w K mg base CX0 3 f fd ["one", "other"] (spTwo K (fun t u v x => True) (fun t u v x => t * v) (fun t u v x => u * x)) := by
  refine F.ok sc_times (fun vs H Q E h => ?_) (fun cdv A outer s H vs Q E hr h => ?_)
  · obtain ⟨a, c, t, u, v, x, rfl, _⟩ := h
    rfl
  · obtain ⟨a, c, t, u, v, x, rfl, ha, hc, pr, hu, hx, b1, b2, b3, b4, q⟩ := h
    refine ⟨_, (pss_one (ps_ret (pe_cal c_lowest hr (pa_cons (pe_op op_mulW (pe_ix ix_tup (pv 0) pe_int (fun _ _ => rfl)) (pe_ix ix_tup (pv 1) pe_int (fun _ _ => rfl))) (pa_cons (pe_op op_mulW (pe_ix ix_tup (pv 0) pe_int (fun _ _ => rfl)) (pe_ix ix_tup (pv 1) pe_int (fun _ _ => rfl))) pa_nil))))), ?_⟩
    have nz : u * x ≠ 0 := Int.mul_ne_zero (by omega) (by omega)
    refine ⟨_, rfl, a, _, 0, .int t, rfl, rfl, ha, a0, _, rfl, c, _, 0, .int v, rfl, rfl, hc, a0, _, _, rfl, rfl, wide_mul b1 b3 (by decide) (by decide) (by decide), _, rfl, a, _, 1, .int u, rfl, rfl, ha, a1, _, rfl, c, _, 1, .int x, rfl, rfl, hc, a1, _, _, rfl, rfl, wide_mul b2 b4 (by decide) (by decide) (by decide), _, _, rfl, nz, ?_, q⟩
    exact Nat.lt_of_lt_of_le (wide_lt b2 b4) (Nat.pow_le_pow_right (by decide) (by decide))
theorem sc_divided : FnScope ["one", "other"] ["one", "other"] (defScope s_divided) := ⟨rfl, rfl, rfl, by decide +kernel, rfl, by decide +kernel, by decide +kernel⟩
theorem ok_divided {f : Addr} {fd : FuncData} (F : Fun K "divided" "divided" s_divided f fd) (c_lowest : Cal P w K mg base 2 "lowest" ["top", "bottom"] spLow) : FnOk P w K mg base CX0 3 f fd ["one", "other"] (spTwo K (fun t u v x => v ≠ 0) (fun t u v x => t * x) (fun t u v x => u * v)) := by
  refine F.ok sc_divided (fun vs H Q E h => ?_) (fun cdv A outer s H vs Q E hr h => ?_)
  · obtain ⟨a, c, t, u, v, x, rfl, _⟩ := h
    rfl
  · obtain ⟨a, c, t, u, v, x, rfl, ha, hc, pr, hu, hx, b1, b2, b3, b4, q⟩ := h
    refine ⟨_, (pss_cons (ps_if (pt_cmpR op_eq (pe_ix ix_tup (pv 1) pe_int (fun _ _ => rfl)) pe_int (nomark _)) (pss_one ps_never) pss_nil)
      (pss_one (ps_ret (pe_cal c_lowest hr (pa_cons (pe_op op_mulW (pe_ix ix_tup (pv 0) pe_int (fun _ _ => rfl)) (pe_ix ix_tup (pv 1) pe_int (fun _ _ => rfl))) (pa_cons (pe_op op_mulW (pe_ix ix_tup (pv 0) pe_int (fun _ _ => rfl)) (pe_ix ix_tup (pv 1) pe_int (fun _ _ => rfl))) pa_nil)))))), ?_⟩
    have nz : u * v ≠ 0 := Int.mul_ne_zero (by omega) pr
    refine ⟨_, rfl, c, _, 0, .int v, rfl, rfl, hc, a0, rfl, _, rfl, ite2 (fun c' => absurd (V.int.inj (toB c')) pr) (fun _ => ?_)⟩
    refine ⟨_, rfl, a, _, 0, .int t, rfl, rfl, ha, a0, _, rfl, c, _, 1, .int x, rfl, rfl, hc, a1, _, _, rfl, rfl, wide_mul b1 b4 (by decide) (by decide) (by decide), _, rfl, a, _, 1, .int u, rfl, rfl, ha, a1, _, rfl, c, _, 0, .int v, rfl, rfl, hc, a0, _, _, rfl, rfl, wide_mul b2 b3 (by decide) (by decide) (by decide), _, _, rfl, nz, ?_, q⟩
    exact Nat.lt_of_lt_of_le (wide_lt b2 b3) (Nat.pow_le_pow_right (by decide) (by decide))
theorem sc_size_of : FnScope ["one"] ["one"] (defScope s_size_of) := ⟨rfl, rfl, rfl, by decide +kernel, rfl, by decide +kernel, by decide +kernel⟩
theorem ok_size_of {f : Addr} {fd : FuncData} {k : Nat} (F : Fun K "size_of" "size_of" s_size_of f fd) (z : Zs mg) : FnOk P w K mg base CX0 (k + 1) f fd ["one"] (spSize K) := by
  refine F.ok sc_size_of (fun vs H Q E h => ?_) (fun cdv A outer s H vs Q E hr h => ?_)
  · obtain ⟨a, t, u, rfl, _⟩ := h
    rfl
  · obtain ⟨a, t, u, rfl, ha, q⟩ := h
    refine ⟨_, (pss_one (ps_ret (pe_tup (pa_cons (pe_callB call_abs (by rfl) z.abs (by decide +kernel) (pa_cons (pe_ix ix_tup (pv 0) pe_int (fun _ _ => rfl)) pa_nil)) (pa_cons (pe_ix ix_tup (pv 0) pe_int (fun _ _ => rfl)) pa_nil))))), ?_⟩
    exact ⟨_, rfl, a, _, 0, .int t, rfl, rfl, ha, a0, _, rfl, _, rfl, a, _, 1, .int u, rfl, rfl, ha, a1, (by show 2 ≤ sizeLine; decide), q⟩
theorem sc_under : FnScope ["one", "other"] ["one", "other"] (defScope s_under) := ⟨rfl, rfl, rfl, by decide +kernel, rfl, by decide +kernel, by decide +kernel⟩
theorem ok_under {f : Addr} {fd : FuncData} {k : Nat} (F : Fun K "under" "under" s_under f fd) : FnOk P w K mg base CX0 (k + 1) f fd ["one", "other"] (spUnder K) := by
  refine F.ok sc_under (fun vs H Q E h => ?_) (fun cdv A outer s H vs Q E hr h => ?_)
  · obtain ⟨a, c, t, u, v, x, rfl, _⟩ := h
    rfl
  · obtain ⟨a, c, t, u, v, x, rfl, ha, hc, b1, b2, b3, b4, q⟩ := h
    refine ⟨_, (pss_one (ps_ret (pe_cmpR op_lt (pe_op op_mulW (pe_ix ix_tup (pv 0) pe_int (fun _ _ => rfl)) (pe_ix ix_tup (pv 1) pe_int (fun _ _ => rfl))) (pe_op op_mulW (pe_ix ix_tup (pv 1) pe_int (fun _ _ => rfl)) (pe_ix ix_tup (pv 0) pe_int (fun _ _ => rfl))) (nomark _)))), ?_⟩
    exact ⟨_, rfl, a, _, 0, .int t, rfl, rfl, ha, a0, _, rfl, c, _, 1, .int x, rfl, rfl, hc, a1, _, _, rfl, rfl, wide_mul b1 b4 (by decide) (by decide) (by decide), _, rfl, c, _, 0, .int v, rfl, rfl, hc, a0, _, rfl, a, _, 1, .int u, rfl, rfl, ha, a1, _, _, rfl, rfl, wide_mul b3 b2 (by decide) (by decide) (by decide), _, _, rfl, rfl, q⟩
theorem sc_is_fraction : FnScope ["thing", "top", "bottom"] ["thing"] (defScope s_is_fraction) := ⟨rfl, rfl, rfl, by decide +kernel, rfl, by decide +kernel, by decide +kernel⟩
theorem ok_is_fraction {f : Addr} {fd : FuncData} (F : Fun K "is_fraction" "is_fraction" s_is_fraction f fd) (z : Zs mg) (c_is_whole : Cal P w K mg base 1 "is_whole" ["thing"] (spWhole K)) (c_shared_divisor : Cal P w K mg base 1 "shared_divisor" ["top", "bottom"] spShared) : FnOk P w K mg base CX0 2 f fd ["thing"] spIsFrac := by
  refine F.ok sc_is_fraction (fun vs H Q E h => ?_) (fun cdv A outer s H vs Q E hr h => ?_)
  · obtain ⟨a, t, u, rfl, _⟩ := h
    rfl
  · obtain ⟨a, t, u, rfl, ha, hu, q⟩ := h
    refine ⟨_, (pss_cons (ps_if (PW.pt (pw_or (pt_not (pt_val (pe_callB call_isi (by rfl) z.isinstance (by decide +kernel) (pa_cons (pv 0) (pa_cons (pe_bltn (v := .ty "tuple") (by rfl) z.tuple (by decide +kernel) rfl) pa_nil))))) (pw_or1 (pt_cmpR op_ne (pe_callB call_len_seq (by rfl) z.len PySem.boot_len (pa_cons (pv 0) pa_nil)) pe_int (nomark _))))) (pss_one (ps_ret pe_bl)) pss_nil)
      (pss_cons (ps_asg (pv 0) (pg_tup (by rfl) (pgs_cons (pg_name (i := 1) sc_is_fraction.nd rfl (.inl rfl)) (pgs_cons (pg_name (i := 2) sc_is_fraction.nd rfl (.inl rfl)) pgs_nil))))
      (pss_cons (ps_if (PW.pt (pw_or (pt_not (pt_val (pe_cal c_is_whole hr (pa_cons (pv 1) pa_nil)))) (pw_or (pt_not (pt_val (pe_cal c_is_whole hr (pa_cons (pv 2) pa_nil)))) (pw_or1 (pt_cmpR op_lt (pv 2) pe_int (nomark _)))))) (pss_one (ps_ret pe_bl)) pss_nil)
      (pss_one (ps_ret (pe_cmpR op_eq (pe_cal c_shared_divisor hr (pa_cons (pv 1) (pa_cons (pv 2) pa_nil))) pe_int (nomark _))))))), ?_⟩
    refine ⟨_, rfl, _, .ty "tuple", _, _, true, rfl, .ty _, .base (.tup ha), kit_ty (by decide +kernel), _, rfl, iteF ⟨_, rfl, a, _, rfl, .inr (SqT.of ha), rfl, _, rfl, iteF ?_⟩⟩
    refine ⟨_, rfl, a, _, rfl, SqT.of ha, rfl, _, _, rfl, _, _, rfl, rfl, ?_⟩
    refine ⟨_, rfl, _, _, rfl, .int t, _, rfl, iteF ⟨_, rfl, _, _, rfl, .int u, _, rfl, iteF ⟨_, rfl, _, _, rfl, rfl, _, rfl, ite2 (fun c => ?_) (fun c => ?_)⟩⟩⟩
    · have := toB c
      omega
    · refine ⟨_, rfl, _, rfl, t, u, rfl, by omega, rfl, ?_⟩
      have e : (decide (V.int (gI t u) = V.int 1)) = decide (gI t u = 1) := by
        by_cases h : gI t u = 1
        · rw [h]
          rfl
        · rw [decide_eq_false h, decide_eq_false (fun z => h (V.int.inj z))]
      rw [e]
      exact q
end
end E1

namespace E1
open PySem PySem.Spec PyProof.Rows L2
/-! ### sums and convolutions of fractions -/
def sg (f : Nat → Rat) : Nat → Rat
  | 0 => 0
  | n + 1 => sg f n + f n
theorem sg_congr {f g : Nat → Rat} : ∀ n, (∀ i, i < n → f i = g i) → sg f n = sg g n
  | 0, _ => rfl
  | n + 1, h => by
    show sg f n + f n = sg g n + g n
    rw [sg_congr n fun i hi => h i (by omega), h n (by omega)]
theorem sg_zero {f : Nat → Rat} (n : Nat) (h : ∀ i, i < n → f i = 0) : sg f n = 0 := by
  induction n with
  | zero => rfl
  | succ n ih =>
    show sg f n + f n = 0
    rw [ih fun i hi => h i (by omega), h n (by omega)]
    grind
theorem sg_first (f : Nat → Rat) : ∀ n, sg f (n + 1) = f 0 + sg (fun i => f (i + 1)) n
  | 0 => by
    show 0 + f 0 = f 0 + 0
    grind
  | n + 1 => by
    show sg f (n + 1) + f (n + 1) = f 0 + (sg (fun i => f (i + 1)) n + f (n + 1))
    rw [sg_first f n]
    grind
theorem sg_mul (c : Rat) (f : Nat → Rat) : ∀ n, sg (fun i => c * f i) n = c * sg f n
  | 0 => by
    show (0 : Rat) = c * 0
    grind
  | n + 1 => by
    show sg (fun i => c * f i) n + c * f n = c * (sg f n + f n)
    rw [sg_mul c f n]
    grind
theorem sg_add (f g : Nat → Rat) : ∀ n, sg (fun i => f i + g i) n = sg f n + sg g n
  | 0 => by
    show (0 : Rat) = 0 + 0
    grind
  | n + 1 => by
    show sg (fun i => f i + g i) n + (f n + g n) = sg f n + f n + (sg g n + g n)
    rw [sg_add f g n]
    grind
/-- the place m of the product -/
def cv (f g : Nat → Rat) (m : Nat) : Rat := sg (fun i => f i * g (m - i)) (m + 1)
theorem cv_zero (f g : Nat → Rat) : cv f g 0 = f 0 * g 0 := by
  show 0 + f 0 * g 0 = f 0 * g 0
  grind
theorem cv_succ (f g : Nat → Rat) (m : Nat) : cv f g (m + 1) = f 0 * g (m + 1) + cv (fun i => f (i + 1)) g m := by
  unfold cv
  rw [sg_first]
  congr 1
  apply sg_congr
  intro i hi
  show f (i + 1) * g (m + 1 - (i + 1)) = f (i + 1) * g (m - i)
  rw [show m + 1 - (i + 1) = m - i by omega]
theorem cv_congr {f f' g g' : Nat → Rat} {m : Nat} (h1 : ∀ i, i ≤ m → f i = f' i) (h2 : ∀ i, i ≤ m → g i = g' i) : cv f g m = cv f' g' m := by
  unfold cv
  apply sg_congr
  intro i hi
  rw [h1 i (by omega), h2 (m - i) (by omega)]
theorem cv_lin (f g h : Nat → Rat) (c : Rat) (m : Nat) : cv f (fun i => c * g i + h i) m = c * cv f g m + cv f h m := by
  unfold cv
  rw [← sg_mul, ← sg_add]
  apply sg_congr
  intro i _
  grind
theorem cv_sub (f g h : Nat → Rat) (m : Nat) : cv f (fun i => g i - h i) m = cv f g m - cv f h m := by
  have e := cv_lin f h (fun i => g i - h i) 1 m
  have e2 : (fun i => 1 * h i + (g i - h i)) = g := by
    funext i
    grind
  rw [e2] at e
  grind
/-- the row moved on by one -/
def sh (u : Nat → Rat) : Nat → Rat
  | 0 => 0
  | n + 1 => u n
theorem cv_sh (f u : Nat → Rat) (m : Nat) : cv f (sh u) (m + 1) = cv f u m := by
  unfold cv
  show sg (fun i => f i * sh u (m + 1 - i)) (m + 1) + f (m + 1) * sh u (m + 1 - (m + 1)) = _
  rw [Nat.sub_self]
  show _ + f (m + 1) * 0 = _
  have e : sg (fun i => f i * sh u (m + 1 - i)) (m + 1) = sg (fun i => f i * u (m - i)) (m + 1) := by
    apply sg_congr
    intro i hi
    rw [show m + 1 - i = (m - i) + 1 by omega]
    rfl
  rw [e]
  grind
theorem cv_sh0 (f u : Nat → Rat) : cv f (sh u) 0 = 0 := by
  rw [cv_zero]
  show f 0 * 0 = 0
  grind
theorem cv_swap : ∀ (m : Nat) (f g h : Nat → Rat), cv f (cv g h) m = cv g (cv f h) m
  | 0, f, g, h => by
    rw [cv_zero, cv_zero, cv_zero, cv_zero]
    grind
  | m + 1, f, g, h => by
    have split : ∀ f g : Nat → Rat, cv f (cv g h) (m + 1) = f 0 * (g 0 * h (m + 1)) + f 0 * cv (fun i => g (i + 1)) h m + cv (fun i => f (i + 1)) (cv g h) m := fun f g => by
      rw [cv_succ, cv_succ]
      grind
    have inner : ∀ g : Nat → Rat, cv g h = fun i => g 0 * h i + sh (cv (fun i => g (i + 1)) h) i := fun g => by
      funext i
      cases i with
      | zero =>
        rw [cv_zero]
        show g 0 * h 0 = g 0 * h 0 + 0
        grind
      | succ i => exact cv_succ g h i
    rw [split f g, split g f]
    rw [cv_swap m (fun i => f (i + 1)) g h]
    have e1 : cv (fun i => g (i + 1)) (cv f h) m = f 0 * cv (fun i => g (i + 1)) h m + cv (fun i => g (i + 1)) (sh (cv (fun i => f (i + 1)) h)) m := by
      rw [inner f, cv_lin]
    rw [e1]
    cases m with
    | zero =>
      rw [cv_sh0, cv_zero, cv_zero]
      grind
    | succ m =>
      rw [cv_sh, cv_succ g]
      grind
/-- what vanishes ahead of k -/
theorem cv_low {f g : Nat → Rat} {k m : Nat} (h : ∀ i, i < k → g i = 0) (hm : m ≤ k) : cv f g m = if m = k then f 0 * g k else 0 := by
  cases m with
  | zero =>
    rw [cv_zero]
    split
    · next e => rw [e]
    · rw [h 0 (by omega)]
      grind
  | succ m =>
    rw [cv_succ]
    have z : cv (fun i => f (i + 1)) g m = 0 := by
      unfold cv
      apply sg_zero
      intro i hi
      rw [h (m - i) (by omega)]
      grind
    rw [z]
    split
    · next e =>
      rw [e]
      grind
    · rw [h (m + 1) (by omega)]
      grind
/-- two responses part just where the products do -/
theorem part_at {b t h b' t' h' : Nat → Rat} {n : Nat} (r : ∀ m, m ≤ n → cv b h m = t m) (r' : ∀ m, m ≤ n → cv b' h' m = t' m) (b0 : b 0 ≠ 0) (b0' : b' 0 ≠ 0) :
    ∀ k, k ≤ n → (∀ i, i < k → cv b' t i = cv b t' i) → (∀ i, i < k → h i = h' i) ∧ (h k = h' k ↔ cv b' t k = cv b t' k) := by
  have key : ∀ k, k ≤ n → (∀ i, i < k → h i = h' i) → cv b' t k - cv b t' k = b 0 * b' 0 * (h k - h' k) := fun k hk hh => by
    have e1 : cv b' t k = cv b' (cv b h) k := cv_congr (fun _ _ => rfl) fun i hi => (r i (by omega)).symm
    have e2 : cv b t' k = cv b (cv b' h') k := cv_congr (fun _ _ => rfl) fun i hi => (r' i (by omega)).symm
    rw [e1, e2, cv_swap k b' b h, ← cv_sub]
    have e3 : ∀ m, m ≤ k → cv b' h m - cv b' h' m = if m = k then b' 0 * (h k - h' k) else 0 := fun m hm => by
      rw [← cv_sub, cv_low (k := k) (fun i hi => by show h i - h' i = 0; rw [hh i hi]; grind) hm]
    rw [cv_low (k := k) (fun i hi => by rw [e3 i (by omega), if_neg (by omega)]) (Nat.le_refl k), if_pos rfl, e3 k (Nat.le_refl k), if_pos rfl]
    grind
  intro k
  induction k with
  | zero =>
    intro hk _
    refine ⟨fun i hi => absurd hi (by omega), ?_⟩
    have e := key 0 hk (fun i hi => absurd hi (by omega))
    constructor
    · intro z
      rw [z] at e
      grind
    · intro z
      rw [z] at e
      grind
  | succ k ih =>
    intro hk hh
    obtain ⟨i1, i2⟩ := ih (by omega) fun i hi => hh i (by omega)
    have all : ∀ i, i < k + 1 → h i = h' i := fun i hi => by
      by_cases c : i < k
      · exact i1 i c
      · rw [show i = k by omega]
        exact i2.mpr (hh k (by omega))
    refine ⟨all, ?_⟩
    have e := key (k + 1) hk all
    constructor
    · intro z
      rw [z] at e
      grind
    · intro z
      rw [z] at e
      grind
/-! ### lists of fractions -/
def fn (qs : List Rat) (i : Nat) : Rat := qs.getD i 0
def sumR : List Rat → Rat
  | [] => 0
  | x :: xs => x + sumR xs
def dotR : List Rat → List Rat → Rat
  | x :: xs, y :: ys => x * y + dotR xs ys
  | _, _ => 0
theorem sumR_append : ∀ xs ys : List Rat, sumR (xs ++ ys) = sumR xs + sumR ys
  | [], ys => by
    show sumR ys = 0 + sumR ys
    grind
  | x :: xs, ys => by
    show x + sumR (xs ++ ys) = x + sumR xs + sumR ys
    rw [sumR_append xs ys]
    grind
theorem fn_lt {qs : List Rat} {i : Nat} {q : Rat} (h : qs[i]? = some q) : fn qs i = q := by
  unfold fn
  rw [List.getD_eq_getElem?_getD, h]
  rfl
theorem fn_ge {qs : List Rat} {i : Nat} (h : qs.length ≤ i) : fn qs i = 0 := by
  unfold fn
  rw [List.getD_eq_getElem?_getD, List.getElem?_eq_none h]
  rfl
/-- a sum over the first n places -/
theorem sum_map (f : Nat → Rat) : ∀ n, sumR ((List.range n).map f) = sg f n
  | 0 => rfl
  | n + 1 => by
    rw [List.range_succ, List.map_append, sumR_append, sum_map f n]
    show sg f n + (f n + 0) = sg f n + f n
    grind
theorem sum_filter (f : Nat → Rat) (p : Nat → Bool) : ∀ n, sumR (((List.range n).filter p).map f) = sg (fun i => if p i = true then f i else 0) n
  | 0 => rfl
  | n + 1 => by
    rw [List.range_succ, List.filter_append, List.map_append, sumR_append, sum_filter f p n]
    show _ = sg (fun i => if p i = true then f i else 0) n + (if p n = true then f n else 0)
    congr 1
    by_cases c : p n = true
    · rw [if_pos c, List.filter_cons, if_pos c]
      show f n + 0 = f n
      grind
    · rw [if_neg c, List.filter_cons, if_neg c]
      rfl
theorem sg_more (f : Nat → Rat) (n : Nat) : ∀ m, (∀ i, n ≤ i → i < n + m → f i = 0) → sg f (n + m) = sg f n
  | 0, _ => rfl
  | m + 1, h => by
    show sg f (n + m) + f (n + m) = sg f n
    rw [sg_more f n m fun i h1 h2 => h i h1 (by omega), h (n + m) (by omega) (by omega)]
    grind
theorem sg_upto (f : Nat → Rat) {n m : Nat} (h : ∀ i, (n ≤ i ∨ m ≤ i) → f i = 0) : sg f n = sg f m := by
  by_cases c : n ≤ m
  · have e := sg_more f n (m - n) (fun i h1 _ => h i (.inl h1))
    rw [show n + (m - n) = m by omega] at e
    exact e.symm
  · have e := sg_more f m (n - m) (fun i h1 _ => h i (.inr h1))
    rw [show m + (n - m) = n by omega] at e
    exact e
/-- the law's own sum of a place -/
theorem law_place (xs ys : List Rat) (k : Nat) : sumR (((List.range xs.length).filter fun j => decide (j ≤ k ∧ k < j + ys.length)).map fun j => fn xs j * fn ys (k - j)) = cv (fn xs) (fn ys) k := by
  rw [sum_filter]
  unfold cv
  have e1 : sg (fun i => if decide (i ≤ k ∧ k < i + ys.length) = true then fn xs i * fn ys (k - i) else 0) xs.length = sg (fun i => if decide (i ≤ k ∧ k < i + ys.length) = true then fn xs i * fn ys (k - i) else 0) (k + 1) := by
    apply sg_upto
    intro i hi
    show (if decide (i ≤ k ∧ k < i + ys.length) = true then fn xs i * fn ys (k - i) else 0) = 0
    rcases hi with h | h
    · rw [fn_ge h]
      split
      · grind
      · rfl
    · rw [if_neg (by rw [decide_eq_true_eq]; omega)]
  rw [e1]
  apply sg_congr
  intro i hi
  show (if decide (i ≤ k ∧ k < i + ys.length) = true then fn xs i * fn ys (k - i) else 0) = fn xs i * fn ys (k - i)
  by_cases c : k < i + ys.length
  · rw [if_pos (by rw [decide_eq_true_eq]; omega)]
  · rw [if_neg (by rw [decide_eq_true_eq]; omega), fn_ge (qs := ys) (by omega)]
    grind
/-- two lists place by place -/
theorem dot_map (f g : Nat → Rat) (n : Nat) : ∀ m, dotR ((List.range' n m).map f) ((List.range' n m).map g) = sg (fun i => f (n + i) * g (n + i)) m := by
  intro m
  induction m generalizing n with
  | zero => rfl
  | succ m ih =>
    rw [List.range'_succ, List.map_cons, List.map_cons]
    show f n * g n + dotR ((List.range' (n + 1) m).map f) ((List.range' (n + 1) m).map g) = _
    rw [ih (n + 1), sg_first]
    congr 1
    apply sg_congr
    intro i _
    rw [show n + 1 + i = n + (i + 1) by omega]
theorem drop_range {xs : List Rat} {n m : Nat} (h : n + m ≤ xs.length) : (xs.drop n).take m = (List.range' n m).map (fn xs) := by
  apply List.ext_getElem?
  intro i
  rw [List.getElem?_take, List.getElem?_drop, List.getElem?_map]
  by_cases c : i < m
  · rw [if_pos c, List.getElem?_range' c, List.getElem?_eq_getElem (show n + i < xs.length by omega)]
    show _ = some (fn xs (n + 1 * i))
    rw [Nat.one_mul, fn_lt (List.getElem?_eq_getElem (show n + i < xs.length by omega))]
  · rw [if_neg c, List.getElem?_eq_none (by rw [List.length_range']; omega)]
    rfl
/-- the program's own sum of a place -/
theorem prog_place (xs ys : List Rat) (k : Nat) {f m : Nat} (hf : f = k + 1 - ys.length) (hm : m = min (k + 1) xs.length - f) : dotR ((List.range' f m).map (fn xs)) ((List.range' f m).map fun j => fn ys (k - j)) = cv (fn xs) (fn ys) k := by
  rw [dot_map]
  unfold cv
  have low : sg (fun i => fn xs i * fn ys (k - i)) f = 0 := sg_zero f fun i hi => by
    rw [fn_ge (qs := ys) (by omega)]
    grind
  have cut : ∀ m, sg (fun i => fn xs i * fn ys (k - i)) (f + m) = sg (fun i => fn xs (f + i) * fn ys (k - (f + i))) m := by
    intro m
    induction m with
    | zero => exact low
    | succ m ih =>
      show sg (fun i => fn xs i * fn ys (k - i)) (f + m) + fn xs (f + m) * fn ys (k - (f + m)) = sg (fun i => fn xs (f + i) * fn ys (k - (f + i))) m + fn xs (f + m) * fn ys (k - (f + m))
      rw [ih]
  rw [← cut m]
  by_cases c : k + 1 ≤ xs.length
  · by_cases c2 : f ≤ k + 1
    · rw [show f + m = k + 1 by omega]
    · omega
  · by_cases c2 : f ≤ xs.length
    · rw [show f + m = xs.length by omega]
      have := sg_more (fun i => fn xs i * fn ys (k - i)) xs.length (k + 1 - xs.length) fun i h1 _ => by
        show fn xs i * fn ys (k - i) = 0
        rw [fn_ge h1]
        grind
      rw [show xs.length + (k + 1 - xs.length) = k + 1 by omega] at this
      exact this.symm
    · have m0 : m = 0 := by omega
      rw [m0, Nat.add_zero, low]
      symm
      apply sg_zero
      intro i hi
      show fn xs i * fn ys (k - i) = 0
      by_cases c3 : i < xs.length
      · rw [fn_ge (qs := ys) (by omega)]
        grind
      · rw [fn_ge (qs := xs) (by omega)]
        grind
/-! ### the response -/
/-- the next place behind the row -/
def nxt (t b row : List Rat) : Rat := (fn t row.length - dotR b.tail row.reverse) / fn b 0
def quo (t b : List Rat) : Nat → List Rat
  | 0 => []
  | n + 1 => quo t b n ++ [nxt t b (quo t b n)]
theorem quo_len (t b : List Rat) : ∀ n, (quo t b n).length = n
  | 0 => rfl
  | n + 1 => by
    show (quo t b n ++ [nxt t b (quo t b n)]).length = n + 1
    rw [List.length_append, quo_len t b n]
    rfl
theorem dot_sg : ∀ xs ys : List Rat, dotR xs ys = sg (fun i => fn xs i * fn ys i) ys.length
  | [], ys => by
    symm
    show sg _ _ = 0
    apply sg_zero
    intro i _
    rw [fn_ge (Nat.zero_le _)]
    grind
  | x :: xs, [] => rfl
  | x :: xs, y :: ys => by
    show x * y + dotR xs ys = sg _ (ys.length + 1)
    rw [sg_first, dot_sg xs ys]
    rfl
theorem fn_tail (b : List Rat) (i : Nat) : fn b.tail i = fn b (i + 1) := by
  cases b with
  | nil => rfl
  | cons x xs => rfl
theorem fn_rev (row : List Rat) {i : Nat} (h : i < row.length) : fn row.reverse i = fn row (row.length - 1 - i) := by
  unfold fn
  rw [List.getD_eq_getElem?_getD, List.getD_eq_getElem?_getD, List.getElem?_reverse h]
theorem quo_fn (t b : List Rat) {i : Nat} : ∀ {n m : Nat}, i < n → n ≤ m → fn (quo t b m) i = fn (quo t b n) i := by
  intro n m h1 h2
  induction m with
  | zero => omega
  | succ m ih =>
    by_cases c : n ≤ m
    · rw [← ih c]
      show fn (quo t b m ++ [_]) i = _
      unfold fn
      rw [List.getD_eq_getElem?_getD, List.getD_eq_getElem?_getD, List.getElem?_append_left (by rw [quo_len]; omega)]
    · rw [show n = m + 1 by omega]
theorem quo_ok (t b : List Rat) (b0 : fn b 0 ≠ 0) (n k : Nat) (h : k < n) : cv (fn b) (fn (quo t b n)) k = fn t k := by
  have e0 : cv (fn b) (fn (quo t b n)) k = cv (fn b) (fn (quo t b (k + 1))) k := cv_congr (fun _ _ => rfl) fun i hi => quo_fn t b (show i < k + 1 by omega) (by omega)
  rw [e0]
  have last : fn (quo t b (k + 1)) k = nxt t b (quo t b k) := by
    show fn (quo t b k ++ [nxt t b (quo t b k)]) k = _
    apply fn_lt
    rw [List.getElem?_append_right (by rw [quo_len]; exact Nat.le_refl _), quo_len, Nat.sub_self]
    rfl
  have den : fn b 0 * nxt t b (quo t b k) = fn t k - dotR b.tail (quo t b k).reverse := by
    unfold nxt
    rw [quo_len]
    grind
  unfold cv
  rw [sg_first]
  show fn b 0 * fn (quo t b (k + 1)) (k - 0) + _ = _
  rw [Nat.sub_zero, last, den, dot_sg, List.length_reverse, quo_len]
  have e : sg (fun i => fn b (i + 1) * fn (quo t b (k + 1)) (k - (i + 1))) k = sg (fun i => fn b.tail i * fn (quo t b k).reverse i) k := by
    apply sg_congr
    intro i hi
    rw [fn_tail, fn_rev _ (by rw [quo_len]; exact hi), quo_len, show k - (i + 1) = k - 1 - i by omega]
    rw [quo_fn t b (n := k) (m := k + 1) (by omega) (by omega)]
  rw [e]
  grind
/-! ### fractions in lowest terms -/
theorem lowT_num {t b : Int} (hb : b ≠ 0) : lowT t b = (Rat.divInt t b).num := by
  rw [Rat.num_divInt]
  unfold lowT gI
  rw [Int.gcd_comm b t]
  split
  · next h =>
    rw [Int.sign_eq_neg_one_of_neg h, Int.neg_mul, Int.one_mul]
  · next h =>
    rw [Int.sign_eq_one_of_pos (by omega), Int.one_mul]
theorem lowB_den {t b : Int} (hb : b ≠ 0) : lowB t b = ((Rat.divInt t b).den : Int) := by
  rw [Rat.den_divInt, if_neg hb]
  unfold lowB gI
  rw [Int.gcd_comm b t, Int.natCast_ediv]
  congr 1
  split <;> omega
theorem den_ne (q : Rat) : (q.den : Int) ≠ 0 := by
  have := q.den_pos
  omega
theorem den_ge (q : Rat) : (0 : Int) < q.den := by
  have := q.den_pos
  omega
theorem q_eq (q : Rat) : q * (q.den : Int) = (q.num : Rat) := by
  have h := Rat.num_divInt_den q
  rw [Rat.divInt_eq_div] at h
  have d : ((q.den : Int) : Rat) ≠ 0 := by
    intro z
    have : (q.den : Int) = 0 := by exact_mod_cast z
    exact den_ne q this
  grind
theorem cast_ne {n : Int} (h : n ≠ 0) : (n : Rat) ≠ 0 := fun z => h (by exact_mod_cast z)
theorem div_q {t b : Int} (h : b ≠ 0) : Rat.divInt t b * (b : Rat) = (t : Rat) := by
  rw [Rat.divInt_eq_div]
  have := cast_ne h
  grind
theorem div_is {t b : Int} (h : b ≠ 0) {q : Rat} (e : q * (b : Rat) = (t : Rat)) : Rat.divInt t b = q := by
  have := div_q (t := t) h
  have := cast_ne h
  grind
theorem minus_q (q r : Rat) : Rat.divInt (q.num * r.den - r.num * q.den) (q.den * r.den) = q - r := by
  apply div_is (Int.mul_ne_zero (den_ne q) (den_ne r))
  have a := q_eq q
  have b := q_eq r
  push_cast at *
  grind
theorem times_q (q r : Rat) : Rat.divInt (q.num * r.num) (q.den * r.den) = q * r := by
  apply div_is (Int.mul_ne_zero (den_ne q) (den_ne r))
  have a := q_eq q
  have b := q_eq r
  push_cast at *
  grind
theorem num_ne {q : Rat} (h : q ≠ 0) : q.num ≠ 0 := fun z => by
  have a := q_eq q
  rw [z] at a
  have d := cast_ne (den_ne q)
  have : ((0 : Int) : Rat) = 0 := rfl
  grind
theorem num_eq {q : Rat} (h : q.num = 0) : q = 0 := by
  by_cases c : q = 0
  · exact c
  · exact absurd h (num_ne c)
theorem divided_q (q r : Rat) (h : r ≠ 0) : Rat.divInt (q.num * r.den) (q.den * r.num) = q / r := by
  apply div_is (Int.mul_ne_zero (den_ne q) (num_ne h))
  have a := q_eq q
  have b := q_eq r
  have d1 := cast_ne (den_ne q)
  have d2 := cast_ne (den_ne r)
  push_cast at *
  grind
theorem q_gcd (q : Rat) : gI q.num q.den = 1 := by
  have := q.reduced
  unfold gI
  show ((Nat.gcd q.num.natAbs (q.den : Int).natAbs : Nat) : Int) = 1
  rw [Int.natAbs_natCast, this]
  rfl
/-! ### sizes -/
def Sc (D : Int) (B : Nat) (q : Rat) : Prop := ∃ n : Int, q * (D : Rat) = (n : Rat) ∧ n.natAbs ≤ B
theorem Sc.cross {D : Int} {B : Nat} {q : Rat} (h : Sc D B q) : ∃ n : Int, q.num * D = n * q.den ∧ n.natAbs ≤ B := by
  obtain ⟨n, e, b⟩ := h
  refine ⟨n, ?_, b⟩
  have a := q_eq q
  have : ((q.num * D : Int) : Rat) = ((n * q.den : Int) : Rat) := by
    push_cast
    push_cast at a
    grind
  exact_mod_cast this
theorem Sc.den {D : Int} {B : Nat} {q : Rat} (h : Sc D B q) : (q.den : Int) ∣ D := by
  obtain ⟨n, e, _⟩ := h.cross
  have d : q.den ∣ q.num.natAbs * D.natAbs := by
    have e2 := congrArg Int.natAbs e
    rw [Int.natAbs_mul, Int.natAbs_mul, Int.natAbs_natCast] at e2
    exact ⟨n.natAbs, by rw [e2, Nat.mul_comm]⟩
  have g : Nat.Coprime q.den q.num.natAbs := Nat.Coprime.symm q.reduced
  have := g.dvd_of_dvd_mul_left d
  exact Int.dvd_natAbs.mp (by exact_mod_cast this)
theorem Sc.num {D : Int} {B : Nat} {q : Rat} (h : Sc D B q) (hD : D ≠ 0) : q.num.natAbs ≤ B := by
  have dv := h.den
  obtain ⟨n, e, b⟩ := h.cross
  have l : q.den ≤ D.natAbs := by
    have : (q.den : Int).natAbs ∣ D.natAbs := Int.natAbs_dvd_natAbs.mpr dv
    rw [Int.natAbs_natCast] at this
    exact Nat.le_of_dvd (by omega) this
  have e2 := congrArg Int.natAbs e
  rw [Int.natAbs_mul, Int.natAbs_mul, Int.natAbs_natCast] at e2
  have h1 : q.num.natAbs * D.natAbs ≤ n.natAbs * D.natAbs := by
    rw [e2]
    exact Nat.mul_le_mul_left _ l
  exact Nat.le_trans (Nat.le_of_mul_le_mul_right h1 (by omega)) b
theorem Sc.mono {D : Int} {B C : Nat} {q : Rat} (h : Sc D B q) (l : B ≤ C) : Sc D C q := by
  obtain ⟨n, e, b⟩ := h
  exact ⟨n, e, by omega⟩
theorem Sc.scale {D k : Int} {B : Nat} {q : Rat} (h : Sc D B q) : Sc (D * k) (B * k.natAbs) q := by
  obtain ⟨n, e, b⟩ := h
  refine ⟨n * k, ?_, ?_⟩
  · push_cast
    grind
  · rw [Int.natAbs_mul]
    exact Nat.mul_le_mul_right _ b
theorem Sc.add {D : Int} {B C : Nat} {q r : Rat} (h : Sc D B q) (g : Sc D C r) : Sc D (B + C) (q + r) := by
  obtain ⟨n, e, b⟩ := h
  obtain ⟨m, f, c⟩ := g
  refine ⟨n + m, ?_, by omega⟩
  push_cast
  grind
theorem Sc.mul {D E : Int} {B C : Nat} {q r : Rat} (h : Sc D B q) (g : Sc E C r) : Sc (D * E) (B * C) (q * r) := by
  obtain ⟨n, e, b⟩ := h
  obtain ⟨m, f, c⟩ := g
  refine ⟨n * m, ?_, by rw [Int.natAbs_mul]; exact Nat.mul_le_mul b c⟩
  push_cast
  grind
theorem Sc.zero {D : Int} {B : Nat} : Sc D B 0 := ⟨0, by push_cast; grind, Nat.zero_le _⟩
/-- the step of a response, with whole numbers -/
theorem horner {D β0 : Int} {B C : Nat} (hB : β0.natAbs ≤ B) (hC : 6 * B ≤ C) : ∀ (bs hs : List Rat) (k : Nat), (∀ b ∈ bs, Sc D B b) → (∀ i q, hs[i]? = some q → i < k ∧ Sc (β0 ^ (k - i)) (C ^ (k - i)) q) →
    ∃ S : Int, dotR bs hs * (D : Rat) * ((β0 ^ k : Int) : Rat) = (S : Rat) ∧ 5 * S.natAbs ≤ C ^ (k + 1)
  | [], hs, k, _, _ => ⟨0, by show (0 : Rat) * _ * _ = _; push_cast; grind, by simp⟩
  | b :: bs, [], k, _, _ => ⟨0, by show (0 : Rat) * _ * _ = _; push_cast; grind, by simp⟩
  | b :: bs, h :: hs, k, h1, h2 => by
    obtain ⟨k0, m, em, bm⟩ := h2 0 h rfl
    obtain ⟨j, rfl⟩ : ∃ j, k = j + 1 := ⟨k - 1, by omega⟩
    obtain ⟨S, eS, bS⟩ := horner hB hC bs hs j (fun x hx => h1 x (List.mem_cons_of_mem _ hx)) fun i q hq => by
      obtain ⟨l1, l2⟩ := h2 (i + 1) q hq
      rw [show j + 1 - (i + 1) = j - i by omega] at l2
      exact ⟨by omega, l2⟩
    obtain ⟨n, en, bn⟩ := h1 b List.mem_cons_self
    refine ⟨n * m + β0 * S, ?_, ?_⟩
    · show (b * h + dotR bs hs) * (D : Rat) * ((β0 ^ (j + 1) : Int) : Rat) = _
      rw [Nat.sub_zero] at em
      have p : ((β0 ^ (j + 1) : Int) : Rat) = (β0 : Rat) * ((β0 ^ j : Int) : Rat) := by
        rw [Int.pow_succ]
        push_cast
        grind
      push_cast at *
      grind
    · rw [Nat.sub_zero] at bm
      have t1 : (n * m).natAbs ≤ B * C ^ (j + 1) := by
        rw [Int.natAbs_mul]
        exact Nat.mul_le_mul bn bm
      have t2 : (β0 * S).natAbs ≤ B * S.natAbs := by
        rw [Int.natAbs_mul]
        exact Nat.mul_le_mul_right _ hB
      have t3 := Int.natAbs_add_le (n * m) (β0 * S)
      have t4 : 5 * (B * S.natAbs) ≤ B * C ^ (j + 1) := by
        rw [show 5 * (B * S.natAbs) = B * (5 * S.natAbs) by rw [← Nat.mul_assoc, Nat.mul_comm 5 B, Nat.mul_assoc]]
        exact Nat.mul_le_mul_left _ bS
      have t5 : 6 * (B * C ^ (j + 1)) ≤ C ^ (j + 1 + 1) := by
        rw [← Nat.mul_assoc, Nat.pow_succ C (j + 1), Nat.mul_comm (C ^ (j + 1)) C]
        exact Nat.mul_le_mul_right _ hC
      omega
theorem nxt_sc {D β0 : Int} {B C : Nat} {t b row : List Rat} (hD : D ≠ 0) (h0 : fn b 0 * (D : Rat) = (β0 : Rat)) (hn : β0 ≠ 0) (hB : β0.natAbs ≤ B) (hC : 6 * B ≤ C) (hb : ∀ x ∈ b, Sc D B x) (ht : ∀ i, Sc D B (fn t i))
    (hr : ∀ i q, row[i]? = some q → Sc (β0 ^ (i + 1)) (C ^ (i + 1)) q) : Sc (β0 ^ (row.length + 1)) (C ^ (row.length + 1)) (nxt t b row) := by
  obtain ⟨S, eS, bS⟩ := horner hB hC b.tail row.reverse row.length (fun x hx => hb x (List.mem_of_mem_tail hx)) fun i q hq => by
    have li : i < row.length := by
      have := (List.getElem?_eq_some_iff.mp hq).1
      rw [List.length_reverse] at this
      exact this
    rw [List.getElem?_reverse li] at hq
    have := hr _ q hq
    rw [show row.length - 1 - i + 1 = row.length - i by omega] at this
    exact ⟨li, this⟩
  obtain ⟨τ, eτ, bτ⟩ := ht row.length
  refine ⟨τ * β0 ^ row.length - S, ?_, ?_⟩
  · unfold nxt
    have b0 : fn b 0 ≠ 0 := fun z => by
      rw [z] at h0
      have := cast_ne hn
      grind
    have p : ((β0 ^ (row.length + 1) : Int) : Rat) = (β0 : Rat) * ((β0 ^ row.length : Int) : Rat) := by
      rw [Int.pow_succ]
      push_cast
      grind
    rw [p]
    push_cast at *
    grind
  · have t1 : (τ * β0 ^ row.length).natAbs ≤ B * B ^ row.length := by
      rw [Int.natAbs_mul, Int.natAbs_pow]
      exact Nat.mul_le_mul bτ (Nat.pow_le_pow_left hB _)
    have t2 : 6 * (B * B ^ row.length) ≤ C ^ (row.length + 1) := by
      rw [← Nat.mul_assoc, Nat.pow_succ, Nat.mul_comm (C ^ row.length) C]
      exact Nat.mul_le_mul hC (Nat.pow_le_pow_left (by omega) _)
    have t3 := Int.natAbs_sub_le (τ * β0 ^ row.length) S
    omega
theorem quo_sc {D β0 : Int} {B C : Nat} {t b : List Rat} (hD : D ≠ 0) (h0 : fn b 0 * (D : Rat) = (β0 : Rat)) (hn : β0 ≠ 0) (hB : β0.natAbs ≤ B) (hC : 6 * B ≤ C) (hb : ∀ x ∈ b, Sc D B x) (ht : ∀ i, Sc D B (fn t i)) :
    ∀ n i q, (quo t b n)[i]? = some q → Sc (β0 ^ (i + 1)) (C ^ (i + 1)) q
  | 0, i, q, h => by
    have : ([] : List Rat)[i]? = some q := h
    cases this
  | n + 1, i, q, h => by
    have h' : (quo t b n ++ [nxt t b (quo t b n)])[i]? = some q := h
    by_cases c : i < n
    · rw [List.getElem?_append_left (by rw [quo_len]; exact c)] at h'
      exact quo_sc hD h0 hn hB hC hb ht n i q h'
    · have li := (List.getElem?_eq_some_iff.mp h').1
      rw [List.length_append, quo_len] at li
      have e : i = n := by
        have : i < n + 1 := li
        omega
      subst e
      rw [List.getElem?_append_right (by rw [quo_len]; exact Nat.le_refl _), quo_len, Nat.sub_self] at h'
      cases h'
      have := nxt_sc hD h0 hn hB hC hb ht (row := quo t b i) fun j r hr => quo_sc hD h0 hn hB hC hb ht i j r hr
      rw [quo_len] at this
      exact this
/-! ### one bottom for all -/
def lcmI (c b : Int) : Int := if c % b = 0 then c else c / gI c b * b
theorem gI_dl (c b : Int) : gI c b ∣ c := by
  unfold gI
  exact Int.gcd_dvd_left ..
theorem gI_dr (c b : Int) : gI c b ∣ b := by
  unfold gI
  exact Int.gcd_dvd_right ..
theorem lcmI_ok {c b : Int} (hc : 0 < c) (hb : 0 < b) : 0 < lcmI c b ∧ c ∣ lcmI c b ∧ b ∣ lcmI c b ∧ ∀ D, c ∣ D → b ∣ D → lcmI c b ∣ D := by
  unfold lcmI
  split
  · next h => exact ⟨hc, Int.dvd_refl c, Int.dvd_of_emod_eq_zero h, fun D h1 _ => h1⟩
  · have g0 := gI_pos (t := c) (b := b) (by omega)
    obtain ⟨x, hx⟩ := gI_dl c b
    obtain ⟨y, hy⟩ := gI_dr c b
    have cop : Nat.gcd x.natAbs y.natAbs = 1 := by
      have h := Int.gcd_mul_left (gI c b) x y
      rw [← hx, ← hy] at h
      have h2 : Int.gcd c b = (gI c b).natAbs := by
        unfold gI
        rw [Int.natAbs_natCast]
      rw [h2] at h
      have : (gI c b).natAbs * 1 = (gI c b).natAbs * Int.gcd x y := by
        rw [Nat.mul_one]
        exact h
      exact (Nat.eq_of_mul_eq_mul_left (by omega) this).symm
    generalize gI c b = g at *
    have ex : c / g = x := Int.ediv_eq_of_eq_mul_right (by omega) hx
    rw [ex]
    have x0 : 0 < x := by
      rcases Int.lt_trichotomy x 0 with z | z | z
      · have := Int.mul_neg_of_pos_of_neg g0 z
        omega
      · rw [z, Int.mul_zero] at hx
        omega
      · exact z
    refine ⟨Int.mul_pos x0 hb, ⟨y, ?_⟩, ⟨x, Int.mul_comm _ _⟩, fun D h1 h2 => ?_⟩
    · subst hx hy
      grind
    · obtain ⟨d1, e1⟩ := h1
      obtain ⟨d2, e2⟩ := h2
      have e3 : x * d1 = y * d2 := by
        have : g * (x * d1) = g * (y * d2) := by
          rw [← Int.mul_assoc, ← Int.mul_assoc, ← hx, ← hy, ← e1, ← e2]
        exact Int.eq_of_mul_eq_mul_left (by omega) this
      have yd : y.natAbs ∣ d1.natAbs := by
        have h1 : y.natAbs ∣ x.natAbs * d1.natAbs := by
          rw [← Int.natAbs_mul, e3, Int.natAbs_mul]
          exact ⟨_, rfl⟩
        have cp : Nat.Coprime y.natAbs x.natAbs := Nat.Coprime.symm cop
        exact cp.dvd_of_dvd_mul_left h1
      obtain ⟨k, hk⟩ := Int.natAbs_dvd_natAbs.mp yd
      refine ⟨k, ?_⟩
      subst hx hy hk
      grind
def com (bs : List Int) : Int := bs.foldl lcmI 1
theorem com_ok : ∀ (bs : List Int) (c : Int), 0 < c → (∀ b ∈ bs, 0 < b) → 0 < bs.foldl lcmI c ∧ c ∣ bs.foldl lcmI c ∧ (∀ b ∈ bs, b ∣ bs.foldl lcmI c) ∧ ∀ D, c ∣ D → (∀ b ∈ bs, b ∣ D) → bs.foldl lcmI c ∣ D
  | [], c, hc, _ => ⟨hc, Int.dvd_refl c, fun b h => absurd h List.not_mem_nil, fun D h _ => h⟩
  | b :: bs, c, hc, hb => by
    obtain ⟨a1, a2, a3, a4⟩ := lcmI_ok hc (hb b List.mem_cons_self)
    obtain ⟨i1, i2, i3, i4⟩ := com_ok bs (lcmI c b) a1 fun x hx => hb x (List.mem_cons_of_mem _ hx)
    rw [List.foldl_cons]
    refine ⟨i1, Int.dvd_trans a2 i2, fun x hx => ?_, fun D h1 h2 => i4 D (a4 D h1 (h2 b List.mem_cons_self)) fun x hx => h2 x (List.mem_cons_of_mem _ hx)⟩
    rcases List.mem_cons.mp hx with rfl | hx
    · exact Int.dvd_trans a3 i2
    · exact i3 x hx
/-- tops over one bottom -/
def tops (c : Int) (ps : List (Int × Int)) : List Int := ps.map fun p => p.1 * (c / p.2)
theorem clear_q (c : Int) (hc : c ≠ 0) : ∀ ps : List (Int × Int), (∀ p ∈ ps, 0 < p.2 ∧ p.2 ∣ c) → sumR (ps.map fun p => Rat.divInt p.1 p.2) * (c : Rat) = ((tops c ps).sum : Int)
  | [], _ => by
    show (0 : Rat) * _ = ((0 : Int) : Rat)
    push_cast
    grind
  | p :: ps, h => by
    have i := clear_q c hc ps fun x hx => h x (List.mem_cons_of_mem _ hx)
    obtain ⟨p0, k, hk⟩ := h p List.mem_cons_self
    have e : c / p.2 = k := Int.ediv_eq_of_eq_mul_right (by omega) hk
    show (Rat.divInt p.1 p.2 + sumR (ps.map fun p => Rat.divInt p.1 p.2)) * (c : Rat) = ((p.1 * (c / p.2) + (tops c ps).sum : Int) : Rat)
    rw [e]
    have d := div_q (t := p.1) (show p.2 ≠ 0 by omega)
    have hk2 : (c : Rat) = (p.2 : Rat) * (k : Rat) := by
      rw [hk]
      push_cast
      rfl
    push_cast
    grind
/-- the products that aren't 0 -/
def prods : List Rat → List Rat → List (Int × Int)
  | x :: xs, y :: ys => (if x.num ≠ 0 ∧ y.num ≠ 0 then [(x.num * y.num, (x.den * y.den : Int))] else []) ++ prods xs ys
  | _, _ => []
theorem prods_q : ∀ xs ys : List Rat, sumR ((prods xs ys).map fun p => Rat.divInt p.1 p.2) = dotR xs ys
  | [], _ => rfl
  | _ :: _, [] => rfl
  | x :: xs, y :: ys => by
    show sumR (((if x.num ≠ 0 ∧ y.num ≠ 0 then [(x.num * y.num, (x.den * y.den : Int))] else []) ++ prods xs ys).map fun p => Rat.divInt p.1 p.2) = x * y + dotR xs ys
    rw [List.map_append, sumR_append, prods_q xs ys]
    split
    · show Rat.divInt (x.num * y.num) (x.den * y.den) + 0 + _ = _
      rw [times_q]
      grind
    · next h =>
      have z : x * y = 0 := by
        by_cases c : x.num = 0
        · rw [num_eq c]
          grind
        · have : y.num = 0 := Classical.byContradiction fun w => h ⟨c, w⟩
          rw [num_eq this]
          grind
      rw [z]
      show (0 : Rat) + _ = _
      grind
theorem prods_mem : ∀ {xs ys : List Rat} {p : Int × Int}, p ∈ prods xs ys → ∃ x ∈ xs, ∃ y ∈ ys, p = (x.num * y.num, (x.den * y.den : Int))
  | [], _, p, h => absurd h List.not_mem_nil
  | _ :: _, [], p, h => absurd h List.not_mem_nil
  | x :: xs, y :: ys, p, h => by
    have h' : p ∈ (if x.num ≠ 0 ∧ y.num ≠ 0 then [(x.num * y.num, (x.den * y.den : Int))] else []) ++ prods xs ys := h
    rcases List.mem_append.mp h' with h | h
    · split at h
      · exact ⟨x, List.mem_cons_self, y, List.mem_cons_self, List.mem_singleton.mp h⟩
      · exact absurd h List.not_mem_nil
    · obtain ⟨a, h1, b, h2, e⟩ := prods_mem h
      exact ⟨a, List.mem_cons_of_mem _ h1, b, List.mem_cons_of_mem _ h2, e⟩
/-! ### lists of pairs and of fractions in the heap -/
inductive PrsAt (H : Hp) : List V → List (Int × Int) → Prop where
  | nil : PrsAt H [] []
  | cons {p : Addr} {t b : Int} {vs : List V} {ps : List (Int × Int)} (e : H p = some (.tup [.int t, .int b])) (r : PrsAt H vs ps) : PrsAt H (.ref p :: vs) ((t, b) :: ps)
def pr (q : Rat) : Int × Int := (q.num, (q.den : Int))
abbrev FrsAt (H : Hp) (vs : List V) (qs : List Rat) : Prop := PrsAt H vs (qs.map pr)
def Fr (H : Hp) (p : Addr) (q : Rat) : Prop := H p = some (.tup [.int q.num, .int (q.den : Int)])
def FrL (H : Hp) (a : Addr) (qs : List Rat) : Prop := ∃ vs, H a = some (.lst vs) ∧ FrsAt H vs qs
theorem PrsAt.same {H H' : Hp} {vs : List V} {ps : List (Int × Int)} (h : PrsAt H vs ps) (s : Same H H') : PrsAt H' vs ps := by
  induction h with
  | nil => exact .nil
  | cons e _ ih => exact .cons (s _ _ e) ih
theorem PrsAt.but {H H' : Hp} {a : Addr} {xs : List V} {vs : List V} {ps : List (Int × Int)} (h : PrsAt H vs ps) (s : SameBut a H H') (ha : H a = some (.lst xs)) : PrsAt H' vs ps := by
  induction h with
  | nil => exact .nil
  | cons e _ ih => exact .cons (s _ _ (ne_of e ha (fun z => nomatch z)) e) ih
theorem PrsAt.len {H : Hp} {vs : List V} {ps : List (Int × Int)} (h : PrsAt H vs ps) : vs.length = ps.length := by
  induction h with
  | nil => rfl
  | cons _ _ ih => rw [List.length_cons, List.length_cons, ih]
theorem PrsAt.get {H : Hp} {vs : List V} {ps : List (Int × Int)} (h : PrsAt H vs ps) : ∀ {i : Nat} {v : V}, vs[i]? = some v → ∃ p t b, v = .ref p ∧ ps[i]? = some (t, b) ∧ H p = some (.tup [.int t, .int b]) := by
  induction h with
  | nil => intro i v z; cases z
  | cons e _ ih =>
    intro i v z
    cases i with
    | zero =>
      cases z
      exact ⟨_, _, _, rfl, rfl, e⟩
    | succ i => exact ih z
theorem PrsAt.at {H : Hp} {vs : List V} {ps : List (Int × Int)} (h : PrsAt H vs ps) : ∀ {i : Nat} {x : Int × Int}, ps[i]? = some x → ∃ p, vs[i]? = some (.ref p) ∧ H p = some (.tup [.int x.1, .int x.2]) := by
  induction h with
  | nil => intro i v z; cases z
  | cons e _ ih =>
    intro i v z
    cases i with
    | zero =>
      cases z
      exact ⟨_, rfl, e⟩
    | succ i => exact ih z
theorem PrsAt.app {H : Hp} {vs ws : List V} {ps qs : List (Int × Int)} (h : PrsAt H vs ps) (g : PrsAt H ws qs) : PrsAt H (vs ++ ws) (ps ++ qs) := by
  induction h with
  | nil => exact g
  | cons e _ ih => exact .cons e ih
theorem PrsAt.drop {H : Hp} {vs : List V} {ps : List (Int × Int)} (h : PrsAt H vs ps) : ∀ n, PrsAt H (vs.drop n) (ps.drop n) := by
  induction h with
  | nil => intro n; rw [List.drop_nil, List.drop_nil]; exact .nil
  | cons e r ih =>
    intro n
    cases n with
    | zero => exact .cons e r
    | succ n => exact ih n
theorem PrsAt.take {H : Hp} {vs : List V} {ps : List (Int × Int)} (h : PrsAt H vs ps) : ∀ n, PrsAt H (vs.take n) (ps.take n) := by
  induction h with
  | nil => intro n; rw [List.take_nil, List.take_nil]; exact .nil
  | cons e r ih =>
    intro n
    cases n with
    | zero => exact .nil
    | succ n => exact .cons e (ih n)
theorem FrsAt.get {H : Hp} {vs : List V} {qs : List Rat} (h : FrsAt H vs qs) {i : Nat} {v : V} (e : vs[i]? = some v) : ∃ p q, v = .ref p ∧ qs[i]? = some q ∧ Fr H p q := by
  obtain ⟨p, t, b, e1, e2, e3⟩ := PrsAt.get h e
  rw [List.getElem?_map] at e2
  obtain ⟨q, hq, ee⟩ := Option.map_eq_some_iff.mp e2
  cases ee
  exact ⟨p, q, e1, hq, e3⟩
theorem FrsAt.at {H : Hp} {vs : List V} {qs : List Rat} (h : FrsAt H vs qs) {i : Nat} {q : Rat} (e : qs[i]? = some q) : ∃ p, vs[i]? = some (.ref p) ∧ Fr H p q := PrsAt.at h (x := pr q) (by rw [List.getElem?_map, e]; rfl)
theorem FrsAt.len {H : Hp} {vs : List V} {qs : List Rat} (h : FrsAt H vs qs) : vs.length = qs.length := by
  have := PrsAt.len h
  rw [List.length_map] at this
  exact this
theorem FrsAt.app {H : Hp} {vs ws : List V} {qs rs : List Rat} (h : FrsAt H vs qs) (g : FrsAt H ws rs) : FrsAt H (vs ++ ws) (qs ++ rs) := by
  show PrsAt H _ ((qs ++ rs).map pr)
  rw [List.map_append]
  exact PrsAt.app h g
theorem FrsAt.one {H : Hp} {p : Addr} {q : Rat} (h : Fr H p q) : FrsAt H [.ref p] [q] := .cons h .nil
theorem FrsAt.drop {H : Hp} {vs : List V} {qs : List Rat} (h : FrsAt H vs qs) (n : Nat) : FrsAt H (vs.drop n) (qs.drop n) := by
  show PrsAt H _ ((qs.drop n).map pr)
  rw [List.map_drop]
  exact PrsAt.drop h n
theorem FrsAt.take {H : Hp} {vs : List V} {qs : List Rat} (h : FrsAt H vs qs) (n : Nat) : FrsAt H (vs.take n) (qs.take n) := by
  show PrsAt H _ ((qs.take n).map pr)
  rw [List.map_take]
  exact PrsAt.take h n
theorem FrL.same {H H' : Hp} {a : Addr} {qs : List Rat} (h : FrL H a qs) (s : Same H H') : FrL H' a qs := by
  obtain ⟨vs, e, r⟩ := h
  exact ⟨vs, s _ _ e, PrsAt.same r s⟩
theorem Fr.same {H H' : Hp} {p : Addr} {q : Rat} (h : Fr H p q) (s : Same H H') : Fr H' p q := s _ _ h
theorem Fr.low {H : Hp} {p : Addr} {t b : Int} {q : Rat} (hb : b ≠ 0) (e : Rat.divInt t b = q) (h : H p = some (.tup [.int (lowT t b), .int (lowB t b)])) : Fr H p q := by
  rw [lowT_num hb, lowB_den hb, e] at h
  exact h
/-- as data -/
def frD (q : Rat) : PyData := .tuple [.int q.num, .int (q.den : Int)]
theorem Fr.dp {K : PySem.W.Frag} {H : Hp} {p : Addr} {q : Rat} (h : Fr H p q) : Dp K H (.ref p) (frD q) := .tup (SqT.of h) (.cons (.int _) (.cons (.int _) .nil))
theorem FrsAt.dp {K : PySem.W.Frag} {H : Hp} : ∀ {qs : List Rat} {vs : List V}, FrsAt H vs qs → DpAll K H vs (qs.map frD)
  | [], vs, h => by
    cases h
    exact .nil
  | q :: qs, vs, h => by
    cases h with
    | cons e r => exact .cons (Fr.dp e) (FrsAt.dp r)
theorem frD_eqv (q r : Rat) : PyData.eqv (frD q) (frD r) = decide (q = r) := by
  show PyData.eqv (.tuple [.int q.num, .int (q.den : Int)]) (.tuple [.int r.num, .int (r.den : Int)]) = _
  simp only [PyData.eqv, PyData.eqvAll, Bool.and_true]
  rw [Bool.eq_iff_iff]
  simp only [Bool.and_eq_true, beq_iff_eq, decide_eq_true_eq]
  constructor
  · intro ⟨h1, h2⟩
    exact Rat.ext h1 (by exact_mod_cast h2)
  · intro h
    rw [h]
    exact ⟨rfl, rfl⟩
theorem frDs_eqv : ∀ qs rs : List Rat, PyData.eqvAll (qs.map frD) (rs.map frD) = decide (qs = rs)
  | [], [] => by simp [PyData.eqvAll]
  | [], r :: rs => by simp [PyData.eqvAll]
  | q :: qs, [] => by simp [PyData.eqvAll]
  | q :: qs, r :: rs => by
    rw [List.map_cons, List.map_cons, PyData.eqvAll, frD_eqv, frDs_eqv qs rs, Bool.eq_iff_iff]
    simp
theorem frL_eqv (qs rs : List Rat) : PyData.eqv (.list (qs.map frD)) (.list (rs.map frD)) = decide (qs = rs) := by
  rw [← frDs_eqv]
  simp only [PyData.eqv]
theorem frDs_lay : ∀ qs : List Rat, PyData.canLayAll0 (qs.map frD) = true
  | [] => rfl
  | q :: qs => by
    rw [List.map_cons, PyData.canLayAll0, frDs_lay qs, Bool.and_true]
    rfl
theorem frDs_deep : ∀ qs : List Rat, PyData.depthAll (qs.map frD) ≤ 3
  | [] => by simp [PyData.depthAll]
  | q :: qs => by
    have := frDs_deep qs
    simp only [List.map_cons, PyData.depthAll, frD, PyData.depth]
    omega
theorem frD_shaped (q : Rat) : SeqAt.shaped (frD q) = true := rfl
theorem frL_shaped (qs : List Rat) : SeqAt.shaped (.list (qs.map frD)) = true := by
  have h1 := frDs_deep qs
  have h2 : PyData.depth (.list (qs.map frD)) ≤ 64 := by simp only [PyData.depth]; omega
  show (PyData.canLay0 (.list (qs.map frD)) && decide (PyData.depth (.list (qs.map frD)) ≤ 64)) = true
  rw [Bool.and_eq_true]
  exact ⟨by simp only [PyData.canLay0]; exact frDs_lay qs, decide_eq_true h2⟩

end E1

namespace E1
open PySem PySem.Spec PyProof.Rows L2
/-! ### ladders over fractions -/
def raR (k : Rat) (b : List Rat) : List Rat := List.zipWith (fun x y => x + k * y) (b ++ [0]) (b ++ [0]).reverse
def stR (k : Rat) (a : List Rat) : List Rat := List.zipWith (fun x y => (x - k * y) / (1 - k * k)) a.dropLast a.reverse
def raise (b : List Rat) (ks : List Rat) : List Rat := ks.foldl (fun b k => raR k b) b
def Ins (k : Rat) : Prop := -1 < k ∧ k < 1
theorem Ins.sq {k : Rat} (h : Ins k) : 1 - k * k ≠ 0 := by
  obtain ⟨h1, h2⟩ := h
  intro z
  have e : (1 - k) * (1 + k) = 0 := by grind
  rcases Rat.mul_eq_zero.mp e with c | c <;> grind
theorem raR_len (k : Rat) (b : List Rat) : (raR k b).length = b.length + 1 := by
  unfold raR
  rw [List.length_zipWith, List.length_reverse, List.length_append, Nat.min_self]
  rfl
theorem stR_len (k : Rat) (a : List Rat) : (stR k a).length = a.length - 1 := by
  unfold stR
  rw [List.length_zipWith, List.length_reverse, List.length_dropLast]
  omega
theorem raR_at (k : Rat) (b : List Rat) (i : Nat) (h : i < (raR k b).length) : (raR k b)[i] = (b ++ [0]).getD i 0 + k * (b ++ [0]).getD (b.length - i) 0 := by
  have hl := raR_len k b
  unfold raR at h ⊢
  rw [List.getElem_zipWith, List.getElem_reverse]
  have l1 : (b ++ [(0 : Rat)]).length = b.length + 1 := by
    rw [List.length_append]
    rfl
  have i1 : i < (b ++ [(0 : Rat)]).length := by
    rw [l1]
    have := hl
    unfold raR at this
    omega
  have e1 : (b ++ [(0 : Rat)]).getD i 0 = (b ++ [0])[i] := by
    rw [List.getD_eq_getElem?_getD, List.getElem?_eq_getElem i1]
    rfl
  have i2 : b.length - i < (b ++ [(0 : Rat)]).length := by omega
  have e2 : (b ++ [(0 : Rat)]).getD (b.length - i) 0 = (b ++ [0])[b.length - i] := by
    rw [List.getD_eq_getElem?_getD, List.getElem?_eq_getElem i2]
    rfl
  rw [e1, e2]
  congr 2
  congr 1
  omega
theorem stR_at (k : Rat) (a : List Rat) (i : Nat) (h : i < (stR k a).length) : (stR k a)[i] = (a.getD i 0 - k * a.getD (a.length - 1 - i) 0) / (1 - k * k) := by
  have hl := stR_len k a
  have h' := h
  rw [hl] at h'
  unfold stR at h ⊢
  rw [List.getElem_zipWith, List.getElem_reverse, List.getElem_dropLast]
  have e1 : a.getD i 0 = a[i]'(by omega) := by
    rw [List.getD_eq_getElem?_getD, List.getElem?_eq_getElem (by omega)]
    rfl
  have e2 : a.getD (a.length - 1 - i) 0 = a[a.length - 1 - i]'(by omega) := by
    rw [List.getD_eq_getElem?_getD, List.getElem?_eq_getElem (by omega)]
    rfl
  rw [e1, e2]
theorem getD_at {l : List Rat} {i : Nat} (h : i < l.length) : l.getD i 0 = l[i] := by
  rw [List.getD_eq_getElem?_getD, List.getElem?_eq_getElem h]
  rfl
theorem getD_more {b : List Rat} {i : Nat} : (b ++ [(0 : Rat)]).getD i 0 = b.getD i 0 := by
  by_cases h : i < b.length
  · rw [List.getD_eq_getElem?_getD, List.getD_eq_getElem?_getD, List.getElem?_append_left h]
  · have e : b.getD i 0 = 0 := by
      rw [List.getD_eq_getElem?_getD, List.getElem?_eq_none (by omega)]
      rfl
    rw [e, List.getD_eq_getElem?_getD, List.getElem?_append_right (by omega)]
    by_cases z : i - b.length = 0
    · rw [z]
      rfl
    · rw [List.getElem?_eq_none (by show 1 ≤ _; omega)]
      rfl
theorem getD_out {b : List Rat} {i : Nat} (h : b.length ≤ i) : b.getD i 0 = 0 := by
  rw [List.getD_eq_getElem?_getD, List.getElem?_eq_none h]
  rfl
theorem raR_D (k : Rat) (b : List Rat) {i : Nat} (h : i ≤ b.length) : (raR k b).getD i 0 = b.getD i 0 + k * b.getD (b.length - i) 0 := by
  have hi : i < (raR k b).length := by
    rw [raR_len]
    omega
  rw [getD_at hi, raR_at, getD_more, getD_more]
theorem stR_D (k : Rat) (a : List Rat) {i : Nat} (h : i + 1 < a.length) : (stR k a).getD i 0 = (a.getD i 0 - k * a.getD (a.length - 1 - i) 0) / (1 - k * k) := by
  have hi : i < (stR k a).length := by
    rw [stR_len]
    omega
  rw [getD_at hi, stR_at]
theorem ext_D {a b : List Rat} (hl : a.length = b.length) (h : ∀ i, i < a.length → a.getD i 0 = b.getD i 0) : a = b := by
  apply List.ext_getElem hl
  intro i h1 h2
  have := h i h1
  rw [getD_at h1, getD_at h2] at this
  exact this
theorem div_self_ {x y : Rat} (h : y ≠ 0) : x * y / y = x := by
  rw [Rat.div_def, Rat.mul_assoc, Rat.mul_inv_cancel _ h, Rat.mul_one]
theorem st_ra {k : Rat} (h : 1 - k * k ≠ 0) (b : List Rat) : stR k (raR k b) = b := by
  apply ext_D
  · rw [stR_len, raR_len]
    omega
  · intro i hi
    rw [stR_len, raR_len] at hi
    rw [stR_D k _ (by rw [raR_len]; omega), raR_len, raR_D k b (by omega), raR_D k b (by omega)]
    rw [show b.length + 1 - 1 - i = b.length - i by omega, show b.length - (b.length - i) = i by omega]
    have e : b.getD i 0 + k * b.getD (b.length - i) 0 - k * (b.getD (b.length - i) 0 + k * b.getD i 0) = b.getD i 0 * (1 - k * k) := by grind
    rw [e, div_self_ h]
theorem ra_st {k : Rat} (h : 1 - k * k ≠ 0) {a : List Rat} (h2 : 2 ≤ a.length) (h0 : a.getD 0 0 = 1) (hk : a.getD (a.length - 1) 0 = k) : raR k (stR k a) = a := by
  apply ext_D
  · rw [raR_len, stR_len]
    omega
  · intro i hi
    rw [raR_len, stR_len] at hi
    have sl := stR_len k a
    rw [raR_D k _ (by omega), sl]
    by_cases c0 : i = 0
    · subst c0
      rw [stR_D k a (by omega), getD_out (b := stR k a) (by omega), h0, Nat.sub_zero, hk]
      have e : (1 - k * k) / (1 - k * k) = (1 : Rat) := by
        rw [Rat.div_def, Rat.mul_inv_cancel _ h]
      rw [e]
      grind
    · by_cases c1 : i = a.length - 1
      · subst c1
        rw [getD_out (b := stR k a) (by omega), Nat.sub_self, stR_D k a (by omega), h0, Nat.sub_zero, hk]
        have e : (1 - k * k) / (1 - k * k) = (1 : Rat) := by
          rw [Rat.div_def, Rat.mul_inv_cancel _ h]
        rw [e]
        grind
      · rw [stR_D k a (by omega), stR_D k a (by omega), show a.length - 1 - (a.length - 1 - i) = i by omega]
        have e : (a.getD i 0 - k * a.getD (a.length - 1 - i) 0) / (1 - k * k) + k * ((a.getD (a.length - 1 - i) 0 - k * a.getD i 0) / (1 - k * k)) = a.getD i 0 * (1 - k * k) / (1 - k * k) := by
          rw [Rat.div_def, Rat.div_def, Rat.div_def]
          grind
        rw [e, div_self_ h]
theorem raise_snoc (b ks : List Rat) (k : Rat) : raise b (ks ++ [k]) = raR k (raise b ks) := by
  unfold raise
  rw [List.foldl_append]
  rfl
theorem raise_cons (b ks : List Rat) (k : Rat) : raise b (k :: ks) = raise (raR k b) ks := rfl
theorem raise_len (b : List Rat) : ∀ ks, (raise b ks).length = b.length + ks.length := by
  intro ks
  induction ks generalizing b with
  | nil => rfl
  | cons k ks ih =>
    rw [raise_cons, ih, raR_len, List.length_cons]
    omega
theorem raR_first (k : Rat) {b : List Rat} (h : 0 < b.length) : (raR k b).getD 0 0 = b.getD 0 0 := by
  rw [raR_D k b (by omega), Nat.sub_zero, getD_out (b := b) (Nat.le_refl _)]
  grind
theorem raR_last (k : Rat) (b : List Rat) : (raR k b).getD b.length 0 = k * b.getD 0 0 := by
  rw [raR_D k b (Nat.le_refl _), Nat.sub_self, getD_out (b := b) (Nat.le_refl _)]
  grind
theorem raise_first (b : List Rat) (h : 0 < b.length) : ∀ ks, (raise b ks).getD 0 0 = b.getD 0 0 := by
  intro ks
  induction ks generalizing b with
  | nil => rfl
  | cons k ks ih => rw [raise_cons, ih _ (by rw [raR_len]; omega), raR_first k h]
/-- what can't be stepped down -/
def Fin_ (r : List Rat) : Prop := r = [1] ∨ (2 ≤ r.length ∧ r.getD 0 0 = 1 ∧ ¬ Ins (r.getD (r.length - 1) 0))
theorem Fin_.first {r : List Rat} (h : Fin_ r) : r.getD 0 0 = 1 := by
  rcases h with rfl | h
  · rfl
  · exact h.2.1
theorem Fin_.pos {r : List Rat} (h : Fin_ r) : 0 < r.length := by
  rcases h with rfl | h
  · exact Nat.one_pos
  · omega
theorem fin_no {r r' ks : List Rat} {k : Rat} (h : Fin_ r) (h' : Fin_ r') (hk : Ins k) : r ≠ raR k (raise r' ks) := fun e => by
  have l : (raise r' ks).length = r'.length + ks.length := raise_len _ _
  have p := h'.pos
  rcases h with rfl | ⟨h2, _, hn⟩
  · have := congrArg List.length e
    rw [raR_len] at this
    have : 1 = (raise r' ks).length + 1 := this
    omega
  · apply hn
    rw [e, raR_len, Nat.add_sub_cancel, raR_last, raise_first _ h'.pos, h'.first, Rat.mul_one]
    exact hk
theorem raise_one {r r' : List Rat} (h : Fin_ r) (h' : Fin_ r') : ∀ (n : Nat) (ks ks' : List Rat), ks.length = n → (∀ k ∈ ks, Ins k) → (∀ k ∈ ks', Ins k) → raise r ks = raise r' ks' → r = r' ∧ ks = ks' := by
  intro n
  induction n with
  | zero =>
    intro ks ks' hl hk hk' e
    have : ks = [] := List.length_eq_zero_iff.mp hl
    subst this
    rcases List.eq_nil_or_concat ks' with rfl | ⟨t, k, rfl⟩
    · exact ⟨e, rfl⟩
    · rw [List.concat_eq_append] at e hk'
      rw [raise_snoc] at e
      exact absurd e (fin_no h h' (hk' k (by simp)))
  | succ n ih =>
    intro ks ks' hl hk hk' e
    obtain ⟨t, k, rfl⟩ : ∃ t k, ks = t ++ [k] := by
      rcases List.eq_nil_or_concat ks with rfl | ⟨t, k, rfl⟩
      · cases hl
      · exact ⟨t, k, List.concat_eq_append⟩
    rw [raise_snoc] at e
    rcases List.eq_nil_or_concat ks' with rfl | ⟨t', k', rfl⟩
    · exact absurd e.symm (fin_no h' h (hk k (by simp)))
    · rw [List.concat_eq_append] at e hk' ⊢
      rw [raise_snoc] at e
      have el : (raise r t).length = (raise r' t').length := by
        have := congrArg List.length e
        rw [raR_len, raR_len] at this
        omega
      have ek : k = k' := by
        have := congrArg (fun l => l.getD (raise r t).length 0) e
        rw [raR_last, el, raR_last, raise_first _ h.pos, raise_first _ h'.pos, h.first, h'.first, Rat.mul_one, Rat.mul_one] at this
        exact this
      subst ek
      have er : raise r t = raise r' t' := by
        have := congrArg (stR k) e
        rw [st_ra (hk k (by simp)).sq, st_ra (hk k (by simp)).sq] at this
        exact this
      obtain ⟨e1, e2⟩ := ih t t' (by rw [List.length_append] at hl; exact Nat.succ.inj hl) (fun x hx => hk x (by simp [hx])) (fun x hx => hk' x (by simp [hx])) er
      exact ⟨e1, by rw [e2]⟩

end E1

namespace E1
open PySem PySem.Spec PyProof.Rows L2
/-! ### ladders over whole numbers -/
def rp (ns : List Int) (n0 : Int) : List Rat := ns.map fun (n : Int) => (n : Rat) / (n0 : Rat)
theorem div_of {x y z : Rat} (h : y ≠ 0) (e : x = z * y) : x / y = z := by
  rw [e, div_self_ h]
theorem rp_first {n0 : Int} {t : List Int} (h : n0 ≠ 0) : (rp (n0 :: t) n0).getD 0 0 = 1 := by
  show (n0 : Rat) / (n0 : Rat) = 1
  exact div_of (cast_ne h) (by rw [Rat.one_mul])
theorem rp_len (ns : List Int) (n0 : Int) : (rp ns n0).length = ns.length := List.length_map _
theorem rp_scale {ns : List Int} {n0 g : Int} (g0 : g ≠ 0) (h0 : n0 ≠ 0) (d0 : g ∣ n0) (hd : ∀ n ∈ ns, g ∣ n) : rp (ns.map (· / g)) (n0 / g) = rp ns n0 := by
  unfold rp
  rw [List.map_map]
  apply List.map_congr_left
  intro n hn
  obtain ⟨m, rfl⟩ := hd n hn
  obtain ⟨m0, rfl⟩ := d0
  have z0 : m0 ≠ 0 := fun z => h0 (by rw [z, Int.mul_zero])
  show ((g * m / g : Int) : Rat) / ((g * m0 / g : Int) : Rat) = _
  rw [Int.mul_ediv_cancel_left _ g0, Int.mul_ediv_cancel_left _ g0]
  refine div_of (cast_ne z0) ?_
  have e : ((g * m : Int) : Rat) / ((g * m0 : Int) : Rat) * ((g * m0 : Int) : Rat) = ((g * m : Int) : Rat) := by
    rw [Rat.div_def, Rat.mul_assoc, Rat.inv_mul_cancel _ (cast_ne h0), Rat.mul_one]
  have g1 : (g : Rat) ≠ 0 := cast_ne g0
  push_cast at e ⊢
  have e2 : (g : Rat) * ((g * m : Rat) / (g * m0 : Rat) * m0) = g * m := by grind
  have e3 : (g : Rat) * ((g * m : Rat) / (g * m0 : Rat) * m0 - m) = 0 := by grind
  rcases Rat.mul_eq_zero.mp e3 with c | c
  · exact absurd c g1
  · grind
def stepZ (f l : Int) (xs ys : List Int) : List Int := List.zipWith (fun o r => f * o - l * r) xs ys
theorem rp_step {ns : List Int} {n0 l : Int} (h0 : n0 ≠ 0) (hd : n0 * n0 - l * l ≠ 0) : rp (stepZ n0 l ns.dropLast ns.reverse) (n0 * n0 - l * l) = stR ((l : Rat) / (n0 : Rat)) (rp ns n0) := by
  unfold rp stR stepZ
  rw [List.map_zipWith, ← List.map_dropLast, ← List.map_reverse, List.zipWith_map]
  congr 1
  funext o r
  have a0 : (n0 : Rat) ≠ 0 := cast_ne h0
  have d0 : ((n0 * n0 - l * l : Int) : Rat) ≠ 0 := cast_ne hd
  have i1 : (n0 : Rat) * (n0 : Rat)⁻¹ = 1 := Rat.mul_inv_cancel _ a0
  refine div_of d0 ?_
  push_cast at d0 ⊢
  rw [Rat.div_def, Rat.div_def, Rat.div_def, Rat.div_def]
  generalize (n0 : Rat)⁻¹ = v at *
  generalize (n0 : Rat) = a at *
  generalize (l : Rat) = L at *
  have e1 : 1 - L * v * (L * v) = (a * a - L * L) * (v * v) := by grind
  have v0 : v ≠ 0 := fun z => by
    rw [z, Rat.mul_zero] at i1
    grind
  have n1 : 1 - L * v * (L * v) ≠ 0 := by
    rw [e1]
    intro z
    rcases Rat.mul_eq_zero.mp z with c | c
    · exact d0 c
    · rcases Rat.mul_eq_zero.mp c with c | c <;> exact v0 c
  have i2 : (1 - L * v * (L * v)) * (1 - L * v * (L * v))⁻¹ = 1 := Rat.mul_inv_cancel _ n1
  generalize (1 - L * v * (L * v))⁻¹ = u at *
  have e3 : (a * a - L * L) * u = a * a := by
    have : (a * a - L * L) * (v * v) * u = 1 := by rw [← e1]; exact i2
    grind
  grind
/-- no greater number divides them all -/
def Prim (ns : List Int) : Prop := ∀ d : Int, (∀ n ∈ ns, d ∣ n) → d ∣ 1
theorem prim_dvd {ns : List Int} {n0 D : Int} (h : Prim ns) (h0 : n0 ≠ 0) (hd : ∀ n ∈ ns, n0 ∣ D * n) : n0 ∣ D := by
  have g0 : Int.gcd n0 D ≠ 0 := fun z => h0 (Int.gcd_eq_zero_iff.mp z).1
  obtain ⟨x, hx⟩ := Int.gcd_dvd_left (a := n0) (b := D)
  obtain ⟨y, hy⟩ := Int.gcd_dvd_right (a := n0) (b := D)
  have gz : ((Int.gcd n0 D : Nat) : Int) ≠ 0 := by omega
  have cop : Int.gcd x y = 1 := by
    have e := Int.gcd_mul_left ((Int.gcd n0 D : Nat) : Int) x y
    rw [← hx, ← hy, Int.natAbs_natCast] at e
    have : Int.gcd n0 D * 1 = Int.gcd n0 D * Int.gcd x y := by rw [Nat.mul_one]; exact e
    exact (Nat.eq_of_mul_eq_mul_left (by omega) this).symm
  have x1 : x ∣ 1 := h x fun n hn => by
    obtain ⟨c, hc⟩ := hd n hn
    have e : y * n = x * c := by
      apply Int.eq_of_mul_eq_mul_left gz
      rw [← Int.mul_assoc, ← hy, hc, ← Int.mul_assoc, ← hx]
    have c2 : Nat.Coprime x.natAbs y.natAbs := cop
    have d2 : x.natAbs ∣ y.natAbs * n.natAbs := by
      rw [← Int.natAbs_mul, e, Int.natAbs_mul]
      exact ⟨_, rfl⟩
    exact Int.natAbs_dvd_natAbs.mp (c2.dvd_of_dvd_mul_left d2)
  obtain ⟨c, hc⟩ := x1
  refine ⟨c * y, ?_⟩
  have e2 : n0 * (c * y) = ((Int.gcd n0 D : Nat) : Int) * (x * c) * y := by
    rw [show n0 * (c * y) = ((Int.gcd n0 D : Nat) : Int) * x * (c * y) by rw [← hx]]
    grind
  rw [e2, ← hc, Int.mul_one, ← hy]
/-- fractions of a common bottom and a size -/
def Sz (a : List Rat) : Prop := ∃ (D : Int) (B : Nat), D ≠ 0 ∧ D.natAbs < 2 ^ 1000 ∧ B < 2 ^ 3000 ∧ ∀ x ∈ a, Sc D B x
theorem Sz.nums {ns : List Int} {n0 : Int} (h : Sz (rp ns n0)) (p : Prim ns) (h0 : n0 ≠ 0) : n0.natAbs < 2 ^ 1000 ∧ ∀ n ∈ ns, n.natAbs < 2 ^ 3000 := by
  obtain ⟨D, B, D0, Dl, Bl, hs⟩ := h
  have key : ∀ n ∈ ns, ∃ m : Int, D * n = n0 * m ∧ m.natAbs ≤ B := fun n hn => by
    obtain ⟨m, e, l⟩ := hs _ (List.mem_map.mpr ⟨n, hn, rfl⟩)
    refine ⟨m, ?_, l⟩
    have a0 : (n0 : Rat) ≠ 0 := cast_ne h0
    have e2 : (n : Rat) * D = m * n0 := by
      have : (n : Rat) / n0 * n0 = n := by
        rw [Rat.div_def, Rat.mul_assoc, Rat.inv_mul_cancel _ a0, Rat.mul_one]
      grind
    have : ((n * D : Int) : Rat) = ((m * n0 : Int) : Rat) := by
      push_cast
      exact e2
    have e4 : n * D = m * n0 := by exact_mod_cast this
    rw [Int.mul_comm D, e4, Int.mul_comm]
  have d0 : n0 ∣ D := prim_dvd p h0 fun n hn => by
    obtain ⟨m, e, _⟩ := key n hn
    exact ⟨m, e⟩
  have l0 : n0.natAbs ≤ D.natAbs := Nat.le_of_dvd (by omega) (Int.natAbs_dvd_natAbs.mpr d0)
  refine ⟨Nat.lt_of_le_of_lt l0 Dl, fun n hn => ?_⟩
  obtain ⟨m, e, l⟩ := key n hn
  have e2 : D.natAbs * n.natAbs = n0.natAbs * m.natAbs := by rw [← Int.natAbs_mul, e, Int.natAbs_mul]
  have l2 : n0.natAbs * m.natAbs ≤ D.natAbs * B := Nat.mul_le_mul l0 l
  have : D.natAbs * n.natAbs ≤ D.natAbs * B := by omega
  exact Nat.lt_of_le_of_lt (Nat.le_of_mul_le_mul_left this (by omega)) Bl
/-- a list whose ladder stays small -/
inductive LadOk : List Rat → Prop where
  | one : LadOk [1]
  | out {a : List Rat} (s : Sz a) (l : 2 ≤ a.length) (f : a.getD 0 0 = 1) (n : ¬ Ins (a.getD (a.length - 1) 0)) : LadOk a
  | step {a : List Rat} (s : Sz a) (l : 2 ≤ a.length) (f : a.getD 0 0 = 1) (n : Ins (a.getD (a.length - 1) 0)) (r : LadOk (stR (a.getD (a.length - 1) 0) a)) : LadOk a
theorem Sc.ins {D : Int} {B : Nat} {k : Rat} (h : Sc D B k) (hD : D ≠ 0) (hk : Ins k) : ∃ K : Int, k * (D : Rat) = (K : Rat) ∧ K.natAbs < D.natAbs := by
  obtain ⟨K, e, _⟩ := h
  refine ⟨K, e, ?_⟩
  obtain ⟨k1, k2⟩ := hk
  rcases Int.lt_or_gt_of_ne hD with c | c
  · have c' : (D : Rat) < 0 := by exact_mod_cast c
    have h1 : (K : Rat) < -(D : Rat) := by
      have : (k + 1) * (-(D : Rat)) > 0 := Rat.mul_pos (by grind) (by grind)
      grind
    have h2 : (D : Rat) < (K : Rat) := by
      have : (1 - k) * (-(D : Rat)) > 0 := Rat.mul_pos (by grind) (by grind)
      grind
    have h1' : K < -D := by exact_mod_cast h1
    have h2' : D < K := by exact_mod_cast h2
    omega
  · have c' : (0 : Rat) < (D : Rat) := by exact_mod_cast c
    have h1 : (K : Rat) < (D : Rat) := by
      have : (1 - k) * (D : Rat) > 0 := Rat.mul_pos (by grind) c'
      grind
    have h2 : -(D : Rat) < (K : Rat) := by
      have : (k + 1) * (D : Rat) > 0 := Rat.mul_pos (by grind) c'
      grind
    have h1' : K < D := by exact_mod_cast h1
    have h2' : -D < K := by exact_mod_cast h2
    omega

end E1

namespace E1
open PySem PySem.Spec PyProof.Rows L2
theorem st_sc {D K : Int} {B : Nat} {k x y : Rat} (hD : D ≠ 0) (hk : k * (D : Rat) = (K : Rat)) (kl : K.natAbs < D.natAbs) (h1 : 1 - k * k ≠ 0) (sx : Sc D B x) (sy : Sc D B y) : Sc (D * D - K * K) (2 * B * D.natAbs) ((x - k * y) / (1 - k * k)) := by
  obtain ⟨X, ex, lx⟩ := sx
  obtain ⟨Y, ey, ly⟩ := sy
  refine ⟨X * D - K * Y, ?_, ?_⟩
  · have e : (x - k * y) / (1 - k * k) * (1 - k * k) = x - k * y := by
      rw [Rat.div_def, Rat.mul_assoc, Rat.inv_mul_cancel _ h1, Rat.mul_one]
    push_cast
    generalize (x - k * y) / (1 - k * k) = z at *
    have e2 : (D : Rat) * D - K * K = (1 - k * k) * (D * D) := by
      rw [← hk]
      grind
    rw [e2, ← ex, ← ey, ← hk]
    grind
  · have a1 : (X * D).natAbs ≤ B * D.natAbs := by
      rw [Int.natAbs_mul]
      exact Nat.mul_le_mul_right _ lx
    have a2 : (K * Y).natAbs ≤ D.natAbs * B := by
      rw [Int.natAbs_mul]
      exact Nat.mul_le_mul (by omega) ly
    rw [Nat.mul_comm D.natAbs B] at a2
    have e3 : 2 * B * D.natAbs = B * D.natAbs + B * D.natAbs := by
      rw [Nat.mul_assoc, Nat.two_mul]
    omega
theorem sq_pos {D K : Int} (kl : K.natAbs < D.natAbs) : D * D - K * K ≠ 0 ∧ (D * D - K * K).natAbs ≤ D.natAbs * D.natAbs := by
  have e1 : D * D = ((D.natAbs * D.natAbs : Nat) : Int) := (Int.natAbs_mul_self (a := D)).symm
  have e2 : K * K = ((K.natAbs * K.natAbs : Nat) : Int) := (Int.natAbs_mul_self (a := K)).symm
  have h : K.natAbs * K.natAbs < D.natAbs * D.natAbs := Nat.mul_lt_mul'' kl kl
  rw [e1, e2]
  generalize K.natAbs * K.natAbs = s at *
  generalize D.natAbs * D.natAbs = t at *
  omega
theorem stR_mem {k : Rat} {a : List Rat} {z : Rat} (h : z ∈ stR k a) : ∃ x ∈ a, ∃ y ∈ a, z = (x - k * y) / (1 - k * k) := by
  obtain ⟨i, hi, rfl⟩ := List.getElem_of_mem h
  have hl := stR_len k a
  rw [stR_at]
  have l1 : i < a.length := by omega
  have l2 : a.length - 1 - i < a.length := by omega
  rw [getD_at l1, getD_at l2]
  exact ⟨_, List.getElem_mem l1, _, List.getElem_mem l2, rfl⟩
theorem stR_first {k : Rat} (h : 1 - k * k ≠ 0) {a : List Rat} (h2 : 2 ≤ a.length) (h0 : a.getD 0 0 = 1) (hk : a.getD (a.length - 1) 0 = k) : (stR k a).getD 0 0 = 1 := by
  rw [stR_D k a (by omega), h0, Nat.sub_zero, hk]
  rw [Rat.div_def, Rat.mul_inv_cancel _ h]
theorem one_list {a : List Rat} (l : a.length = 1) (h : a.getD 0 0 = 1) : a = [1] := by
  match a, l, h with
  | [x], _, h =>
    have : x = 1 := h
    rw [this]
theorem ladNaive : ∀ (n d e : Nat) (a : List Rat) (D : Int) (B : Nat), a.length = n → 1 ≤ n → a.getD 0 0 = 1 → D ≠ 0 → D.natAbs < 2 ^ d → B < 2 ^ e → (∀ x ∈ a, Sc D B x) → d * 2 ^ n ≤ 4000 → e + d * 2 ^ n + n ≤ 3000 + d → LadOk a := by
  intro n
  induction n with
  | zero => intro d e a D B _ h; omega
  | succ n ih =>
    intro d e a D B hl _ h0 hD hd hB hs c1 c2
    by_cases n0 : n = 0
    · subst n0
      rw [one_list hl h0]
      exact .one
    · have p2 : 4 ≤ 2 ^ (n + 1) := by
        have : 2 ^ 2 ≤ 2 ^ (n + 1) := Nat.pow_le_pow_right (by decide) (by omega)
        exact this
      have d4 : d * 4 ≤ d * 2 ^ (n + 1) := Nat.mul_le_mul_left _ p2
      have l2 : 2 ≤ a.length := by omega
      have sz : Sz a := ⟨D, B, hD, Nat.lt_of_lt_of_le hd (Nat.pow_le_pow_right (by decide) (by omega)), Nat.lt_of_lt_of_le hB (Nat.pow_le_pow_right (by decide) (by omega)), hs⟩
      by_cases i : Ins (a.getD (a.length - 1) 0)
      · refine .step sz l2 h0 i ?_
        have lm : a.getD (a.length - 1) 0 ∈ a := by
          rw [getD_at (by omega)]
          exact List.getElem_mem _
        obtain ⟨K, ek, kl⟩ := (hs _ lm).ins hD i
        obtain ⟨q1, q2⟩ := sq_pos kl
        have ep : d * 2 ^ (n + 1) = 2 * d * 2 ^ n := by
          rw [Nat.pow_succ]
          generalize 2 ^ n = t
          grind
        refine ih (2 * d) (e + d + 1) _ (D * D - K * K) (2 * B * D.natAbs) (by rw [stR_len]; omega) (by omega) (stR_first i.sq l2 h0 rfl) q1 ?_ ?_ (fun z hz => ?_) (by omega) (by omega)
        · refine Nat.lt_of_le_of_lt q2 ?_
          rw [show 2 * d = d + d by omega, Nat.pow_add]
          exact Nat.mul_lt_mul'' hd hd
        · have : B * D.natAbs < 2 ^ e * 2 ^ d := Nat.mul_lt_mul'' hB hd
          rw [← Nat.pow_add] at this
          rw [Nat.pow_succ, Nat.mul_assoc]
          omega
        · obtain ⟨x, hx, y, hy, rfl⟩ := stR_mem hz
          exact st_sc hD ek kl i.sq (hs x hx) (hs y hy)
      · exact .out sz l2 h0 i
theorem raR_mem {k : Rat} {b : List Rat} {z : Rat} (h : z ∈ raR k b) : ∃ x, (x ∈ b ∨ x = 0) ∧ ∃ y, (y ∈ b ∨ y = 0) ∧ z = x + k * y := by
  obtain ⟨i, hi, rfl⟩ := List.getElem_of_mem h
  have hl := raR_len k b
  rw [raR_at, getD_more, getD_more]
  have key : ∀ j, b.getD j 0 ∈ b ∨ b.getD j 0 = 0 := fun j => by
    by_cases c : j < b.length
    · rw [getD_at c]
      exact .inl (List.getElem_mem c)
    · exact .inr (getD_out (by omega))
  exact ⟨_, key _, _, key _, rfl⟩
theorem ra_sc {D E : Int} {B : Nat} {k x y : Rat} (sk : Sc E E.natAbs k) (sx : Sc D B x) (sy : Sc D B y) : Sc (D * E) (2 * B * E.natAbs) (x + k * y) := by
  have a := sx.scale (k := E)
  have b := sk.mul sy
  rw [Int.mul_comm E D] at b
  refine (a.add b).mono ?_
  rw [Nat.mul_comm E.natAbs B, Nat.mul_assoc, Nat.two_mul]
  exact Nat.le_refl _
/-- a rung of a small bottom -/
def Rg (k : Rat) : Prop := Ins k ∧ ∃ E : Int, E ≠ 0 ∧ E.natAbs < 2 ^ 20 ∧ Sc E E.natAbs k
theorem ladRaised {r : List Rat} (hr : Fin_ r) {D : Int} {B : Nat} (hD : D ≠ 0) (dl : D.natAbs < 2 ^ 300) (bl : B < 2 ^ 300) (hs : ∀ x ∈ r, Sc D B x) : ∀ (n : Nat) (ks : List Rat), ks.length = n → n ≤ 8 → (∀ k ∈ ks, Rg k) →
    LadOk (raise r ks) ∧ ∃ (D' : Int) (B' : Nat), D' ≠ 0 ∧ D'.natAbs < 2 ^ (300 + 20 * n) ∧ B' < 2 ^ (300 + 21 * n) ∧ ∀ x ∈ raise r ks, Sc D' B' x := by
  intro n
  induction n with
  | zero =>
    intro ks hl _ _
    have : ks = [] := List.length_eq_zero_iff.mp hl
    subst this
    refine ⟨?_, D, B, hD, dl, bl, hs⟩
    rcases hr with rfl | ⟨h2, h0, hn⟩
    · exact .one
    · exact .out ⟨D, B, hD, Nat.lt_trans dl (Nat.pow_lt_pow_right (by decide) (by decide)), Nat.lt_trans bl (Nat.pow_lt_pow_right (by decide) (by decide)), hs⟩ h2 h0 hn
  | succ n ih =>
    intro ks hl n8 hk
    obtain ⟨t, k, rfl⟩ : ∃ t k, ks = t ++ [k] := by
      rcases List.eq_nil_or_concat ks with rfl | ⟨t, k, rfl⟩
      · cases hl
      · exact ⟨t, k, List.concat_eq_append⟩
    obtain ⟨lo, D1, B1, d1, dl1, bl1, hs1⟩ := ih t (by rw [List.length_append] at hl; exact Nat.succ.inj hl) (by omega) fun x hx => hk x (by simp [hx])
    obtain ⟨ik, E, e0, el, sk⟩ := hk k (by simp)
    have ll : (raise r t).length = r.length + t.length := raise_len _ _
    have rp_ := hr.pos
    have S : ∀ z ∈ raise r (t ++ [k]), Sc (D1 * E) (2 * B1 * E.natAbs) z := fun z hz => by
      rw [raise_snoc] at hz
      obtain ⟨x, hx, y, hy, rfl⟩ := raR_mem hz
      have g : ∀ x, (x ∈ raise r t ∨ x = 0) → Sc D1 B1 x := fun x hx => by
        rcases hx with hx | rfl
        · exact hs1 x hx
        · exact .zero
      exact ra_sc sk (g x hx) (g y hy)
    have D2 : D1 * E ≠ 0 := Int.mul_ne_zero d1 e0
    have dl2 : (D1 * E).natAbs < 2 ^ (300 + 20 * (n + 1)) := by
      rw [Int.natAbs_mul, show 300 + 20 * (n + 1) = (300 + 20 * n) + 20 by omega, Nat.pow_add]
      exact Nat.mul_lt_mul'' dl1 el
    have bl2 : 2 * B1 * E.natAbs < 2 ^ (300 + 21 * (n + 1)) := by
      have : B1 * E.natAbs < 2 ^ (300 + 21 * n) * 2 ^ 20 := Nat.mul_lt_mul'' bl1 el
      rw [← Nat.pow_add] at this
      rw [show 300 + 21 * (n + 1) = (300 + 21 * n + 20) + 1 by omega, Nat.pow_succ, Nat.mul_assoc]
      omega
    refine ⟨?_, _, _, D2, dl2, bl2, S⟩
    have sz : Sz (raise r (t ++ [k])) := ⟨_, _, D2, Nat.lt_of_lt_of_le dl2 (Nat.pow_le_pow_right (by decide) (by omega)), Nat.lt_of_lt_of_le bl2 (Nat.pow_le_pow_right (by decide) (by omega)), S⟩
    rw [raise_snoc] at sz ⊢
    have la : (raR k (raise r t)).getD ((raR k (raise r t)).length - 1) 0 = k := by
      rw [raR_len, Nat.add_sub_cancel, raR_last, raise_first _ rp_, hr.first, Rat.mul_one]
    refine .step sz (by rw [raR_len]; omega) (by rw [raR_first _ (by omega), raise_first _ rp_, hr.first]) (by rw [la]; exact ik) ?_
    rw [la, st_ra ik.sq]
    exact lo

end E1

namespace E1
open PySem PySem.Spec PyProof.Rows L2

theorem rep_all (n : Nat) : (List.replicate n true).all id = true := by
  rw [List.all_eq_true]
  intro x h
  exact (List.mem_replicate.mp h).2
theorem PrL_get {H : Hp} {vs : List V} {ps : List (Int × Int)} (h : PrsAt H vs ps) {i : Nat} {v : V} (e : vs[i]? = some v) : ∃ p t b, v = .ref p ∧ ps[i]? = some (t, b) ∧ (t, b) ∈ ps ∧ H p = some (.tup [.int t, .int b]) := by
  obtain ⟨p, t, b, e1, e2, e3⟩ := h.get e
  exact ⟨p, t, b, e1, e2, List.mem_of_getElem? e2, e3⟩
/-- pairs whose bottoms are above 0 and divide D -/
def Btm (D : Int) (ps : List (Int × Int)) : Prop := D ≠ 0 ∧ D.natAbs < 2 ^ 2000 ∧ ∀ p ∈ ps, 0 < p.2 ∧ p.2 ∣ D ∧ p.1.natAbs < 2 ^ 3000
theorem Btm.lt {D : Int} {ps : List (Int × Int)} (h : Btm D ps) {b : Int} (hb : 0 < b) (d : b ∣ D) : b.natAbs < 2 ^ 2000 := by
  have : b.natAbs ∣ D.natAbs := Int.natAbs_dvd_natAbs.mpr d
  have := Nat.le_of_dvd (by have := h.1; omega) this
  exact Nat.lt_of_le_of_lt this h.2.1
theorem Btm.com {D : Int} {ps : List (Int × Int)} (h : Btm D ps) : 0 < com (ps.map (·.2)) ∧ com (ps.map (·.2)) ∣ D ∧ ∀ p ∈ ps, p.2 ∣ com (ps.map (·.2)) := by
  have hp : ∀ b ∈ ps.map (·.2), 0 < b ∧ b ∣ D := fun b hb => by
    obtain ⟨p, h1, rfl⟩ := List.mem_map.mp hb
    exact ⟨(h.2.2 p h1).1, (h.2.2 p h1).2.1⟩
  obtain ⟨c1, _, c3, c4⟩ := com_ok (ps.map (·.2)) 1 (by decide) fun b hb => (hp b hb).1
  exact ⟨c1, c4 D (Int.one_dvd D) fun b hb => (hp b hb).2, fun p hp' => c3 _ (List.mem_map.mpr ⟨p, hp', rfl⟩)⟩
theorem Btm.take {D : Int} {ps : List (Int × Int)} (h : Btm D ps) (n : Nat) : Btm D (ps.take n) := ⟨h.1, h.2.1, fun p hp => h.2.2 p (List.mem_of_mem_take hp)⟩
def spIsFrs : Sp := fun vs H Q _ => ∃ (a : Addr) (qs : List Rat), vs = [.ref a] ∧ FrL H a qs ∧ qs.length ≤ 1000 ∧ ∀ H', Same H H' → Q (.bl true) H'
def spCom : Sp := fun vs H Q _ => ∃ (a : Addr) (ws : List V) (ps : List (Int × Int)) (D : Int), vs = [.ref a] ∧ H a = some (.lst ws) ∧ PrsAt H ws ps ∧ Btm D ps ∧ Q (.int (com (ps.map (·.2)))) H
def spCleared : Sp := fun vs H Q _ => ∃ (a : Addr) (ws : List V) (ps : List (Int × Int)) (D : Int), vs = [.ref a] ∧ H a = some (.lst ws) ∧ PrsAt H ws ps ∧ Btm D ps ∧ ps.length ≤ 1000 ∧
  ∀ T l H', Same H H' → H' T = some (.tup [.ref l, .int (com (ps.map (·.2)))]) → H' l = some (.lst ((tops (com (ps.map (·.2))) ps).map V.int)) → Q (.ref T) H'
/-- fractions of a bottom and a size -/
def Bnd (D : Int) (B : Nat) (qs : List Rat) : Prop := D ≠ 0 ∧ D.natAbs < 2 ^ 1000 ∧ B < 2 ^ 1000 ∧ ∀ q ∈ qs, Sc D B q

theorem FrL.len {H : Hp} {a : Addr} {qs : List Rat} (h : FrL H a qs) : ∃ vs, H a = some (.lst vs) ∧ vs.length = qs.length ∧ FrsAt H vs qs := by
  obtain ⟨vs, e, r⟩ := h
  exact ⟨vs, e, FrsAt.len r, r⟩
theorem fn_mem {qs : List Rat} {i : Nat} (h : i < qs.length) : fn qs i ∈ qs := by
  rw [fn_lt (List.getElem?_eq_getElem h)]
  exact List.getElem_mem h
theorem fn_sc {D : Int} {B : Nat} {qs : List Rat} (h : ∀ q ∈ qs, Sc D B q) (i : Nat) : Sc D B (fn qs i) := by
  by_cases c : i < qs.length
  · exact h _ (fn_mem c)
  · rw [fn_ge (by omega)]
    exact .zero
theorem FrsAt.fn {H : Hp} {vs : List V} {qs : List Rat} (h : FrsAt H vs qs) {i : Nat} (hi : i < qs.length) : ∃ p, vs[i]? = some (.ref p) ∧ Fr H p (E1.fn qs i) := by
  obtain ⟨p, h1, h2⟩ := FrsAt.at h (List.getElem?_eq_getElem hi)
  exact ⟨p, h1, by rw [fn_lt (List.getElem?_eq_getElem hi)]; exact h2⟩
def spIsBot : Sp := fun vs H Q _ => ∃ (a : Addr) (qs : List Rat), vs = [.ref a] ∧ FrL H a qs ∧ qs.length ≤ 1000 ∧ 0 < qs.length ∧ fn qs 0 ≠ 0 ∧ ∀ H', Same H H' → Q (.bl true) H'
def spChkS : Sp := fun vs H Q _ => ∃ (a : Addr) (qs : List Rat), vs = [.ref a] ∧ FrL H a qs ∧ qs.length ≤ 1000 ∧ ∀ H', Same H H' → Q .non H'
def spChkB : Sp := fun vs H Q _ => ∃ (a : Addr) (qs : List Rat), vs = [.ref a] ∧ FrL H a qs ∧ qs.length ≤ 1000 ∧ 0 < qs.length ∧ fn qs 0 ≠ 0 ∧ ∀ H', Same H H' → Q .non H'

def CDivA (_ j : Int) : Prop := j ≠ 0 ∧ j.natAbs.log2 < 9000
theorem op_fdivA {X : Cx} : OpR X (binaryOp .FloorDiv) (rI CDivA fun i j => .int (i.fdiv j)) := opI fun i j _ _ _ _ _ hc q => floordiv_int hc.1 q (.inl (PyProof.noPylong_of_log2 hc.2))
theorem wide_divA {i j : Int} {b : Nat} (h : j ≠ 0) (hb : j.natAbs < 2 ^ b) (h0 : 0 < b) (h9 : b ≤ 9000) : CDivA i j := ⟨h, Nat.lt_of_lt_of_le (PySem.Flt.log2_lt_of h0 hb) h9⟩
theorem small1000' {n : Nat} (h : n ≤ 1000) : n < sizeLine := Nat.lt_of_le_of_lt h (by decide)
def spLong : Sp := fun vs H Q _ => ∃ c : Int, vs = [.int c] ∧ c.natAbs < 2 ^ 2000 ∧ Q (.bl false) H
/-- what a list of whole numbers is over its greatest divisor, the first above 0 -/
def ShR (ns : List Int) (n0 : Int) (H : Hp) (Q : VK) : Prop := ∀ (g : Int) (M : Addr) (H' : Hp), g ≠ 0 → 0 < n0 / g → (∀ n ∈ ns, g ∣ n) → (∀ d, (∀ n ∈ ns, d ∣ n) → d ∣ g) → Same H H' → H' M = some (.lst ((ns.map (· / g)).map V.int)) → Q (.ref M) H'
def spShort : Sp := fun vs H Q _ => ∃ (a : Addr) (n0 : Int) (t : List Int), vs = [.ref a] ∧ H a = some (.lst ((n0 :: t).map V.int)) ∧ n0 ≠ 0 ∧ n0.natAbs < 2 ^ 8000 ∧ t.length ≤ 100 ∧ ShR (n0 :: t) n0 H Q
def spStep (K : PySem.W.Frag) : Sp := fun vs H Q _ => ∃ (a : Addr) (n0 : Int) (t : List Int) (l : Int), vs = [.ref a] ∧ H a = some (.lst ((n0 :: (t ++ [l])).map V.int)) ∧ 0 < n0 ∧ -n0 < l ∧ l < n0 ∧ n0.natAbs < 2 ^ 1000 ∧ (∀ n ∈ n0 :: (t ++ [l]), n.natAbs < 2 ^ 3000) ∧ t.length ≤ 50 ∧
  ShR (stepZ n0 l (n0 :: t) (n0 :: (t ++ [l])).reverse) (n0 * n0 - l * l) H Q
theorem stepZ_take (f l : Int) (xs ys : List Int) (i : Nat) (x y : Int) (hx : xs[i]? = some x) (hy : ys[i]? = some y) : stepZ f l (xs.take (i + 1)) (ys.take (i + 1)) = stepZ f l (xs.take i) (ys.take i) ++ [f * x - l * y] := by
  unfold stepZ
  have lx := (List.getElem?_eq_some_iff.mp hx).1
  have ly := (List.getElem?_eq_some_iff.mp hy).1
  rw [List.take_succ, List.take_succ, hx, hy, Option.toList_some, Option.toList_some, List.zipWith_append (by rw [List.length_take, List.length_take]; omega)]
  rfl
theorem cut_most (xs : List V) (v : V) : cutV (xs ++ [v]) none (some (-1)) = xs := by
  unfold cutV
  have e1 : HT.sIx (xs ++ [v]).length 0 none = 0 := rfl
  have e2 : HT.sIx (xs ++ [v]).length (xs ++ [v]).length (some (-1)) = xs.length := by
    unfold HT.sIx
    rw [List.length_append]
    simp only [List.length_cons, List.length_nil]
    split <;> omega
  rw [e1, e2, List.drop_zero, Nat.sub_zero]
  exact List.take_left' rfl
theorem fdiv_dvd {n g : Int} (h : g ∣ n) : n.fdiv g = n / g := by
  by_cases g0 : g = 0
  · subst g0
    simp
  · obtain ⟨m, rfl⟩ := h
    rw [Int.mul_fdiv_cancel_left _ g0, Int.mul_ediv_cancel_left _ g0]
section
variable {P : Program} {w : World} {K : PySem.W.Frag} {mg : Str → Option Value} {base : Heap}
theorem sc_is_fractions : FnScope ["thing", "one"] ["thing"] (defScope s_is_fractions) := ⟨rfl, rfl, rfl, by decide +kernel, rfl, by decide +kernel, by decide +kernel⟩
theorem ok_is_fractions {f : Addr} {fd : FuncData} (F : Fun K "is_fractions" "is_fractions" s_is_fractions f fd) (z : Zs mg) (c_is_fraction : Cal P w K mg base 2 "is_fraction" ["thing"] spIsFrac) : FnOk P w K mg base CX0 3 f fd ["thing"] spIsFrs := by
  refine F.ok sc_is_fractions (fun vs H Q E h => ?_) (fun cdv A outer s H vs Q E hr h => ?_)
  · obtain ⟨a, qs, rfl, _⟩ := h
    rfl
  · obtain ⟨a, qs, rfl, ⟨vs, ha, hq⟩, hl, q⟩ := h
    refine ⟨_, (pss_one (ps_ret (pe_and (pe_callB call_isi (by rfl) z.isinstance (by decide +kernel) (pa_cons (pv 0) (pa_cons (pe_bltn (v := .ty "list") (by rfl) z.list (by decide +kernel) rfl) pa_nil))) (pe_one (pe_callB (cr_all rfl) (by rfl) z.all (by decide +kernel) (pa_cons (pe_lc (own := [("one", 1)]) (g := gName 1) (tt := tYes) (te := (tCall spIsFrac [] E0 (tCons (tVar 1) tNil))) (by rfl) sc_is_fractions.nd (pi_list (pv 0)) (blkOk_by (own := [("one", 1)]) (N := ["thing", "one"]) (sc := defScope s_is_fractions) (by decide +kernel)) (fun _ _ _ _ _ => by exact (pg_name (i := 1) sc_is_fractions.nd rfl (.inl rfl))) (fun _ _ _ _ _ => by exact pts_nil) (fun _ _ _ _ _ => by exact (pe_cal c_is_fraction hr (pa_cons (pv 1) pa_nil)))) pa_nil)))))), ?_⟩
    have hlen := FrsAt.len hq
    refine ⟨_, rfl, _, .ty "list", _, _, true, rfl, .ty _, .base (.lst ha), kit_ty (by decide +kernel), _, rfl, iteT ⟨_, rfl, a, rfl, ⟨_, SqL.of ha⟩, fun D hD => lc_list (K := K) (a := a) (xs := vs) (fun i H' => Same H H' ∧ H' D = some (.lst (List.replicate i (V.bl true)))) ⟨same_new hD, upd_same⟩ (fun i H' _ hP => SqL.of (hP.1 _ _ ha)) (fun i x H' hx hP => ?_) (fun H' hP => ?_)⟩⟩
    · obtain ⟨s1, hacc⟩ := hP
      obtain ⟨p, r, rfl, hr', hp⟩ := FrsAt.get hq hx
      have hi := (List.getElem?_eq_some_iff.mp hx).1
      have d0 := den_ge r
      refine ⟨rfl, _, rfl, p, r.num, r.den, rfl, s1 _ _ hp, by omega, ?_⟩
      rw [q_gcd, decide_eq_true rfl]
      refine ⟨_, hacc, ?_, fun b o e => ?_, ?_⟩
      · rw [List.length_replicate]
        exact small1000 (by omega)
      · rw [upd_ne (ne_of_none e hD)]
        exact s1 _ _ e
      · rw [upd_same, List.replicate_succ']
    · obtain ⟨s1, hacc⟩ := hP
      refine ⟨D, List.replicate _ true, rfl, SqL.of (by rw [List.map_replicate]; exact hacc), ?_⟩
      rw [rep_all]
      exact q _ s1
theorem sc_common_bottom : FnScope ["pairs", "common", "pair"] ["pairs"] (defScope s_common_bottom) := ⟨rfl, rfl, rfl, by decide +kernel, rfl, by decide +kernel, by decide +kernel⟩
theorem ok_common_bottom {f : Addr} {fd : FuncData} (F : Fun K "common_bottom" "common_bottom" s_common_bottom f fd) (z : Zs mg) (c_shared_divisor : Cal P w K mg base 1 "shared_divisor" ["top", "bottom"] spShared) : FnOk P w K mg base CX0 2 f fd ["pairs"] spCom := by
  refine F.ok sc_common_bottom (fun vs H Q E h => ?_) (fun cdv A outer s H vs Q E hr h => ?_)
  · obtain ⟨a, ws, ps, D, rfl, _⟩ := h
    rfl
  · obtain ⟨a, ws, ps, D, rfl, ha, hp0, hB, q⟩ := h
    refine ⟨_, (pss_cons (ps_set (i := 1) sc_common_bottom.nd rfl (.inl rfl) pe_int)
      (pss_cons (ps_for PassesOwn.never rfl (pi_list (pv 0)) (pg_name (i := 2) sc_common_bottom.nd rfl (.inl rfl)) (pss_one (ps_if (pt_truth (pe_op op_mod (pv 1) (pe_ix ix_tup (pv 2) pe_int (fun _ _ => rfl))) (by intro _; rfl)) (pss_one (ps_set (i := 1) sc_common_bottom.nd rfl (.inl rfl) (pe_op op_mulW (pe_op op_fdivW (pv 1) (pe_cal c_shared_divisor hr (pa_cons (pv 1) (pa_cons (pe_ix ix_tup (pv 2) pe_int (fun _ _ => rfl)) pa_nil)))) (pe_ix ix_tup (pv 2) pe_int (fun _ _ => rfl))))) pss_nil)))
      (pss_one (ps_ret (pv 1))))), ?_⟩
    have hlen := hp0.len
    refine ⟨_, rfl, a, rfl, ⟨_, SqL.of ha⟩, for_list (K := K) (a := a) (xs := ws) (fun i σ H' => H' = H ∧ ∃ y : Option V, σ = [some (.ref a), some (.int (com ((ps.take i).map (·.2)))), y]) ⟨rfl, none, rfl⟩ (fun i σ H' _ hP => hP.1 ▸ SqL.of ha) (fun i x σ H' hx hP => ?_) (fun σ H' hP => ?_)⟩
    · obtain ⟨rfl, y, rfl⟩ := hP
      obtain ⟨p, t, b, rfl, hi, hm, hp⟩ := PrL_get hp0 hx
      obtain ⟨b0, bD, _⟩ := hB.2.2 _ hm
      obtain ⟨c0, cD, _⟩ := (hB.take i).com
      have b1 := hB.lt b0 bD
      have c1 := hB.lt c0 cD
      have e : com ((ps.take (i + 1)).map (·.2)) = lcmI (com ((ps.take i).map (·.2))) b := by
        rw [List.take_succ, hi, Option.toList_some, List.map_append]
        unfold com
        rw [List.foldl_append]
        rfl
      generalize hc : com ((ps.take i).map (·.2)) = c at *
      refine ⟨_, rfl, _, rfl, p, _, 1, .int b, rfl, rfl, SqT.of hp, a1, _, _, rfl, rfl, (by show 0 < b; exact b0), _, rfl, ?_⟩
      by_cases c2 : c % b = 0
      · rw [c2]
        refine iteF ⟨rfl, some (.ref p), ?_⟩
        rw [e]
        unfold lcmI
        rw [if_pos c2]
        rfl
      · have ne : (c % b != 0) = true := by
          rw [bne_iff_ne]
          exact c2
        rw [ne]
        have g0 := gI_pos (t := c) (b := b) (by omega)
        have g1 : (gI c b).natAbs < 2 ^ 2000 := Nat.lt_of_le_of_lt (gI_le (by omega)) b1
        have q1 : (c / gI c b).natAbs < 2 ^ 2000 := by
          have h1 : 0 ≤ c / gI c b := Int.ediv_nonneg (by omega) (by omega)
          have h2 : c / gI c b ≤ c := Int.ediv_le_self _ (by omega)
          omega
        refine iteT ⟨_, rfl, _, rfl, _, rfl, p, _, 1, .int b, rfl, rfl, SqT.of hp, a1, c, b, rfl, by omega, _, _, rfl, rfl, wide_div g0 g1 (by decide) (by decide), _, rfl, p, _, 1, .int b, rfl, rfl, SqT.of hp, a1, _, _, rfl, rfl, wide_mul q1 b1 (by decide) (by decide) (by decide), rfl, some (.ref p), ?_⟩
        rw [e]
        unfold lcmI
        rw [if_neg c2]
        rfl
    · obtain ⟨rfl, y, rfl⟩ := hP
      rw [hlen, List.take_length]
      exact ⟨_, rfl, q⟩
theorem sc_cleared : FnScope ["pairs", "common", "top", "bottom"] ["pairs"] (defScope s_cleared) := ⟨rfl, rfl, rfl, by decide +kernel, rfl, by decide +kernel, by decide +kernel⟩
theorem ok_cleared {f : Addr} {fd : FuncData} (F : Fun K "cleared" "cleared" s_cleared f fd) (c_common_bottom : Cal P w K mg base 2 "common_bottom" ["pairs"] spCom) : FnOk P w K mg base CX0 3 f fd ["pairs"] spCleared := by
  refine F.ok sc_cleared (fun vs H Q E h => ?_) (fun cdv A outer s H vs Q E hr h => ?_)
  · obtain ⟨a, ws, ps, D, rfl, _⟩ := h
    rfl
  · obtain ⟨a, ws, ps, D, rfl, ha, hp0, hB, hl, q⟩ := h
    refine ⟨_, (pss_cons (ps_set (i := 1) sc_cleared.nd rfl (.inr rfl) (pe_cal c_common_bottom hr (pa_cons (pv 0) pa_nil)))
      (pss_one (ps_ret (pe_tup (pa_cons (pe_lc (own := [("top", 2), ("bottom", 3)]) (g := gTup K 2 (gCons (gName 2) (gCons (gName 3) gNil))) (tt := tYes) (te := (tOp (rI CMulW fun i j => V.int (i * j)) (tVar 2) (tOp (rI CDivW fun i j => V.int (i / j)) (tVar 1) (tVar 3)))) (by rfl) sc_cleared.nd (pi_list (pv 0)) (blkOk_by (own := [("top", 2), ("bottom", 3)]) (N := ["pairs", "common", "top", "bottom"]) (sc := defScope s_cleared) (by decide +kernel)) (fun _ _ _ _ _ => by exact (pg_tup (by rfl) (pgs_cons (pg_name (i := 2) sc_cleared.nd rfl (.inl rfl)) (pgs_cons (pg_name (i := 3) sc_cleared.nd rfl (.inl rfl)) pgs_nil)))) (fun _ _ _ _ _ => by exact pts_nil) (fun _ _ _ _ _ => by exact (pe_op op_mulW (pv 2) (pe_op op_fdivW (pv 1) (pv 3))))) (pa_cons (pv 1) pa_nil)))))), ?_⟩
    have hlen := hp0.len
    obtain ⟨c0, cD, cdv⟩ := hB.com
    have c1 := hB.lt c0 cD
    refine ⟨_, rfl, a, ws, ps, D, rfl, ha, hp0, hB, ?_⟩
    generalize com (ps.map (·.2)) = c at *
    refine ⟨_, rfl, a, rfl, ⟨_, SqL.of ha⟩, fun l hD => lc_list (K := K) (a := a) (xs := ws) (fun i H' => Same H H' ∧ H' l = some (.lst ((tops c (ps.take i)).map V.int))) ⟨same_new hD, upd_same⟩ (fun i H' _ hP => SqL.of (hP.1 _ _ ha)) (fun i x H' hx hP => ?_) (fun H' hP => ?_)⟩
    · obtain ⟨s1, hacc⟩ := hP
      obtain ⟨p, t, b, rfl, hi, hm, hp⟩ := PrL_get hp0 hx
      obtain ⟨b0, bD, t1⟩ := hB.2.2 _ hm
      have b1 := hB.lt b0 bD
      have li := (List.getElem?_eq_some_iff.mp hi).1
      have q1 : (c / b).natAbs < 2 ^ 2000 := by
        have h1 : 0 ≤ c / b := Int.ediv_nonneg (by omega) (by omega)
        have h2 : c / b ≤ c := Int.ediv_le_self _ (by omega)
        omega
      refine ⟨p, [.int t, .int b], rfl, SqT.of (s1 _ _ hp), rfl, _, _, rfl, _, _, rfl, rfl, rfl, ?_⟩
      refine ⟨_, rfl, _, rfl, _, rfl, _, _, rfl, rfl, wide_div b0 b1 (by decide) (by decide), _, _, rfl, rfl, wide_mul t1 q1 (by decide) (by decide) (by decide), _, hacc, ?_, fun b' o e => ?_, ?_⟩
      · unfold tops
        rw [List.length_map, List.length_map, List.length_take]
        exact small1000 (by omega)
      · rw [upd_ne (ne_of_none e hD)]
        exact s1 _ _ e
      · rw [upd_same, List.take_succ, hi, Option.toList_some]
        unfold tops
        rw [List.map_append, List.map_append]
        rfl
    · obtain ⟨s1, hacc⟩ := hP
      rw [hlen, List.take_length] at hacc
      refine ⟨_, rfl, (by show 2 ≤ sizeLine; decide), fun T hT => ?_⟩
      exact q T l _ (s1.trans (same_new hT)) upd_same (same_new hT _ _ hacc)
theorem sc_is_bottom : FnScope ["thing"] ["thing"] (defScope s_is_bottom) := ⟨rfl, rfl, rfl, by decide +kernel, rfl, by decide +kernel, by decide +kernel⟩
theorem ok_is_bottom {f : Addr} {fd : FuncData} {aN : Addr} (g_NOUGHT : mg "NOUGHT" = some (.ref aN)) (tN : ∀ H, SqT K H aN [.int 0, .int 1]) (F : Fun K "is_bottom" "is_bottom" s_is_bottom f fd) (z : Zs mg) (c_is_fractions : Cal P w K mg base 3 "is_fractions" ["thing"] spIsFrs) : FnOk P w K mg base CX0 4 f fd ["thing"] spIsBot := by
  refine F.ok sc_is_bottom (fun vs H Q E h => ?_) (fun cdv A outer s H vs Q E hr h => ?_)
  · obtain ⟨a, qs, rfl, _⟩ := h
    rfl
  · obtain ⟨a, qs, rfl, hq, hl, h0, hn, q⟩ := h
    refine ⟨_, (pss_one (ps_ret (pe_and (pe_cal c_is_fractions hr (pa_cons (pv 0) pa_nil)) (pe_and (pe_cmpR op_gt (pe_callB call_len_seq (by rfl) z.len PySem.boot_len (pa_cons (pv 0) pa_nil)) pe_int (nomark _)) (pe_one (pe_cmpR (op_neD hr.units) (pe_ix ix_list (pv 0) pe_int (fun _ _ => rfl)) (pe_glob (v := .ref aN) (by rfl) g_NOUGHT rfl) (nomark _))))))), ?_⟩
    refine ⟨_, rfl, a, qs, rfl, hq, hl, fun H1 s1 => ⟨_, rfl, iteT ?_⟩⟩
    obtain ⟨vs, ha, hlen, hv⟩ := (hq.same s1).len
    obtain ⟨p, hp1, hp⟩ := FrsAt.fn hv h0
    refine ⟨_, rfl, a, _, rfl, .inl (SqL.of ha), _, _, rfl, rfl, _, rfl, ?_⟩
    rw [hlen]
    refine ite2 (fun _ => ?_) (fun c => absurd (decide_eq_true (show (qs.length : Int) > 0 by omega)) c)
    refine ⟨_, rfl, a, _, 0, .ref p, rfl, rfl, SqL.of ha, atI_nat (j := 0) hp1, frD (fn qs 0), frD 0, Fr.dp hp, .tup (tN _) (.cons (.int _) (.cons (.int _) .nil)), frD_shaped _, frD_shaped _, ?_⟩
    rw [frD_eqv, decide_eq_false hn]
    exact q _ s1
theorem sc_check_series : FnScope ["thing"] ["thing"] (defScope s_check_series) := ⟨rfl, rfl, rfl, by decide +kernel, rfl, by decide +kernel, by decide +kernel⟩
theorem ok_check_series {f : Addr} {fd : FuncData} (F : Fun K "check_series" "check_series" s_check_series f fd) (c_is_fractions : Cal P w K mg base 3 "is_fractions" ["thing"] spIsFrs) : FnOk P w K mg base CX0 4 f fd ["thing"] spChkS := by
  refine F.ok sc_check_series (fun vs H Q E h => ?_) (fun cdv A outer s H vs Q E hr h => ?_)
  · obtain ⟨a, qs, rfl, _⟩ := h
    rfl
  · obtain ⟨a, qs, rfl, hq, hl, q⟩ := h
    refine ⟨_, (pss_one (ps_if (pt_not (pt_val (pe_cal c_is_fractions hr (pa_cons (pv 0) pa_nil)))) (pss_one ps_never) pss_nil)), ?_⟩
    exact ⟨_, rfl, a, qs, rfl, hq, hl, fun H1 s1 => ⟨_, rfl, iteF (q _ s1)⟩⟩
theorem sc_check_bottom : FnScope ["thing"] ["thing"] (defScope s_check_bottom) := ⟨rfl, rfl, rfl, by decide +kernel, rfl, by decide +kernel, by decide +kernel⟩
theorem ok_check_bottom {f : Addr} {fd : FuncData} (F : Fun K "check_bottom" "check_bottom" s_check_bottom f fd) (c_is_bottom : Cal P w K mg base 4 "is_bottom" ["thing"] spIsBot) : FnOk P w K mg base CX0 5 f fd ["thing"] spChkB := by
  refine F.ok sc_check_bottom (fun vs H Q E h => ?_) (fun cdv A outer s H vs Q E hr h => ?_)
  · obtain ⟨a, qs, rfl, _⟩ := h
    rfl
  · obtain ⟨a, qs, rfl, hq, hl, h0, hn, q⟩ := h
    refine ⟨_, (pss_one (ps_if (pt_not (pt_val (pe_cal c_is_bottom hr (pa_cons (pv 0) pa_nil)))) (pss_one ps_never) pss_nil)), ?_⟩
    exact ⟨_, rfl, a, qs, rfl, hq, hl, h0, hn, fun H1 s1 => ⟨_, rfl, iteF (q _ s1)⟩⟩
theorem sc_is_long : FnScope ["common"] ["common"] (defScope s_is_long) := ⟨rfl, rfl, rfl, by decide +kernel, rfl, by decide +kernel, by decide +kernel⟩
theorem ok_is_long {f : Addr} {fd : FuncData} {k : Nat} (tk : Tok) (g_LONGEST_COMMON : mg "LONGEST_COMMON" = some (.int 40000 tk)) (F : Fun K "is_long" "is_long" s_is_long f fd) : FnOk P w K mg base CX0 (k + 1) f fd ["common"] spLong := by
  refine F.ok sc_is_long (fun vs H Q E h => ?_) (fun cdv A outer s H vs Q E hr h => ?_)
  · obtain ⟨c, rfl, _⟩ := h
    rfl
  · obtain ⟨c, rfl, hc, q⟩ := h
    refine ⟨_, (pss_one (ps_ret (pe_cmpR op_gt (pe_bits (pv 0)) (pe_glob (v := .int 40000) (by rfl) g_LONGEST_COMMON ⟨tk, rfl⟩) (nomark _)))), ?_⟩
    refine ⟨_, rfl, _, rfl, _, _, rfl, rfl, ?_⟩
    have := PyProof.Rows.intBits_le (a := c) (k := 2000) hc
    show Q (.bl (decide (((Builtin.Int.intBits c : Nat) : Int) > 40000))) H
    rw [decide_eq_false (by omega)]
    exact q
theorem sc_shortened : FnScope ["numbers", "shared", "number"] ["numbers"] (defScope s_shortened) := ⟨rfl, rfl, rfl, by decide +kernel, rfl, by decide +kernel, by decide +kernel⟩
theorem ok_shortened {f : Addr} {fd : FuncData} (F : Fun K "shortened" "shortened" s_shortened f fd) (z : Zs mg) (c_shared_divisor : Cal P w K mg base 1 "shared_divisor" ["top", "bottom"] spShared) : FnOk P w K mg base CX0 2 f fd ["numbers"] spShort := by
  refine F.ok sc_shortened (fun vs H Q E h => ?_) (fun cdv A outer s H vs Q E hr h => ?_)
  · obtain ⟨a, n0, t, rfl, _⟩ := h
    rfl
  · obtain ⟨a, n0, t, rfl, ha, n00, nb, hl, q⟩ := h
    refine ⟨_, (pss_cons (ps_set (i := 1) sc_shortened.nd rfl (.inr rfl) (pe_callB call_abs (by rfl) z.abs (by decide +kernel) (pa_cons (pe_ix ix_list (pv 0) pe_int (fun _ _ => rfl)) pa_nil)))
      (pss_cons (ps_for PassesOwn.never rfl (pi_list (pv 0)) (pg_name (i := 2) sc_shortened.nd rfl (.inl rfl)) (pss_one (ps_set (i := 1) sc_shortened.nd rfl (.inr rfl) (pe_cal c_shared_divisor hr (pa_cons (pv 2) (pa_cons (pv 1) pa_nil))))))
      (pss_cons (ps_if (pt_cmpR op_lt (pe_ix ix_list (pv 0) pe_int (fun _ _ => rfl)) pe_int (nomark _)) (pss_one (ps_set (i := 1) sc_shortened.nd rfl (.inr rfl) (pe_un un_neg (pv 1)))) pss_nil)
      (pss_one (ps_ret (pe_lc (own := [("number", 2)]) (g := gName 2) (tt := tYes) (by rfl) sc_shortened.nd (pi_list (pv 0)) (blkOk_by (own := [("number", 2)]) (N := ["numbers", "shared", "number"]) (sc := defScope s_shortened) (by decide +kernel)) (fun _ _ _ _ _ => by exact (pg_name (i := 2) sc_shortened.nd rfl (.inl rfl))) (fun _ _ _ _ _ => by exact pts_nil) (fun _ _ _ _ _ => by exact (pe_op op_fdivA (pv 2) (pv 1))))))))), ?_⟩
    refine ⟨_, rfl, a, _, 0, .int n0, rfl, rfl, SqL.of ha, a0, _, rfl, ?_⟩
    refine ⟨_, rfl, a, rfl, ⟨_, SqL.of ha⟩, for_list (K := K) (a := a) (xs := (n0 :: t).map V.int) (fun i σ H' => H' = H ∧ ∃ (g : Int) (y2 : Option V), σ = [some (.ref a), some (.int g), y2] ∧ 0 < g ∧ g ∣ n0 ∧ (∀ n ∈ (n0 :: t).take i, g ∣ n) ∧ ∀ d : Int, d ∣ n0 → (∀ n ∈ (n0 :: t).take i, d ∣ n) → d ∣ g) ⟨rfl, (if n0 < 0 then -n0 else n0), none, rfl, by split <;> omega, ?_, fun n hn => absurd hn (by simp), fun d h _ => ?_⟩ (fun i σ H' _ hP => hP.1 ▸ SqL.of ha) (fun i x σ H' hx hP => ?_) (fun σ H' hP => ?_)⟩
    · split
      · exact Int.neg_dvd.mpr (Int.dvd_refl _)
      · exact Int.dvd_refl _
    · split
      · exact Int.dvd_neg.mpr h
      · exact h
    · obtain ⟨rfl, g, y2, rfl, g0, g1, g2, g3⟩ := hP
      rw [List.getElem?_map] at hx
      obtain ⟨n, hn, rfl⟩ := Option.map_eq_some_iff.mp hx
      have p0 := gI_pos (t := n) (b := g) (by omega)
      have d1 : gI n g ∣ n := Int.gcd_dvd_left ..
      have d2 : gI n g ∣ g := Int.gcd_dvd_right ..
      refine ⟨_, rfl, _, rfl, n, g, rfl, by omega, rfl, gI n g, _, rfl, p0, Int.dvd_trans d2 g1, fun m hm => ?_, fun d hd hm => ?_⟩
      · rw [List.take_succ, hn, Option.toList_some] at hm
        rcases List.mem_append.mp hm with hm | hm
        · exact Int.dvd_trans d2 (g2 m hm)
        · rw [List.mem_singleton.mp hm]
          exact d1
      · rw [List.take_succ, hn, Option.toList_some] at hm
        exact Int.dvd_coe_gcd (hm n (List.mem_append.mpr (.inr (List.mem_singleton.mpr rfl)))) (g3 d hd fun m h => hm m (List.mem_append.mpr (.inl h)))
    · obtain ⟨rfl, g, y2, rfl, g0, g1, g2, g3⟩ := hP
      rw [List.length_map, List.take_length] at g2 g3
      have gb : g.natAbs < 2 ^ 8000 := by
        have h1 : g.natAbs ∣ n0.natAbs := Int.natAbs_dvd_natAbs.mpr g1
        exact Nat.lt_of_le_of_lt (Nat.le_of_dvd (by omega) h1) nb
      have g4 : ∀ d : Int, (∀ n ∈ n0 :: t, d ∣ n) → d ∣ g := fun d h => g3 d (h n0 List.mem_cons_self) h
      obtain ⟨m, em⟩ := id g1
      refine ⟨_, rfl, a, _, 0, .int n0, rfl, rfl, SqL.of ha, a0, _, _, rfl, rfl, _, rfl, ite2 (fun c => ?_) (fun c => ?_)⟩
      · have c' : n0 < 0 := toB c
        refine ⟨_, rfl, _, rfl, ?_⟩
        have gz : -g ≠ 0 := by omega
        have gb2 : (-g).natAbs < 2 ^ 8000 := by omega
        have gd2 : ∀ n ∈ n0 :: t, -g ∣ n := fun n hn => Int.neg_dvd.mpr (g2 n hn)
        have gm2 : ∀ d : Int, (∀ n ∈ n0 :: t, d ∣ n) → d ∣ -g := fun d h => Int.dvd_neg.mpr (g4 d h)
        refine ⟨_, rfl, a, rfl, ⟨_, SqL.of ha⟩, fun D hD => lc_list (K := K) (a := a) (xs := (n0 :: t).map V.int) (fun i G => Same H' G ∧ G D = some (.lst ((((n0 :: t).take i).map (· / -g)).map V.int))) ⟨same_new hD, upd_same⟩ (fun i G _ hP => SqL.of (hP.1 _ _ ha)) (fun i x G hx hP => ?_) (fun G hP => ?_)⟩
        · obtain ⟨sG, hacc⟩ := hP
          rw [List.getElem?_map] at hx
          obtain ⟨n, hn, rfl⟩ := Option.map_eq_some_iff.mp hx
          have dn : -g ∣ n := gd2 n (List.mem_of_getElem? hn)
          refine ⟨rfl, _, rfl, _, rfl, _, _, rfl, rfl, wide_divA gz (gb2 : (-g).natAbs < 2 ^ 8000) (by decide) (by decide), _, hacc, ?_, fun b o e => ?_, ?_⟩
          · rw [List.length_map, List.length_map, List.length_take, List.length_cons]
            exact small1000 (by omega)
          · rw [upd_ne (ne_of_none e hD)]
            exact sG _ _ e
          · rw [upd_same]
            show some (HO.lst (_ ++ [V.int (n.fdiv (-g))])) = _
            rw [fdiv_dvd dn, List.take_succ, hn, Option.toList_some, List.map_append, List.map_append]
            rfl
        · obtain ⟨sG, hacc⟩ := hP
          rw [List.length_map, List.take_length] at hacc
          refine q (-g) D G gz ?_ gd2 gm2 sG hacc
          rw [em, show g * m = -g * -m by grind, Int.mul_ediv_cancel_left _ gz]
          rcases Int.lt_or_le m 0 with hm | hm
          · omega
          · have := Int.mul_nonneg (Int.le_of_lt g0) hm
            omega
      · have c' : ¬ n0 < 0 := toNB c
        have gz : g ≠ 0 := by omega
        refine ⟨_, rfl, a, rfl, ⟨_, SqL.of ha⟩, fun D hD => lc_list (K := K) (a := a) (xs := (n0 :: t).map V.int) (fun i G => Same H' G ∧ G D = some (.lst ((((n0 :: t).take i).map (· / g)).map V.int))) ⟨same_new hD, upd_same⟩ (fun i G _ hP => SqL.of (hP.1 _ _ ha)) (fun i x G hx hP => ?_) (fun G hP => ?_)⟩
        · obtain ⟨sG, hacc⟩ := hP
          rw [List.getElem?_map] at hx
          obtain ⟨n, hn, rfl⟩ := Option.map_eq_some_iff.mp hx
          have dn : g ∣ n := g2 n (List.mem_of_getElem? hn)
          refine ⟨rfl, _, rfl, _, rfl, _, _, rfl, rfl, wide_divA gz (gb : (g).natAbs < 2 ^ 8000) (by decide) (by decide), _, hacc, ?_, fun b o e => ?_, ?_⟩
          · rw [List.length_map, List.length_map, List.length_take, List.length_cons]
            exact small1000 (by omega)
          · rw [upd_ne (ne_of_none e hD)]
            exact sG _ _ e
          · rw [upd_same]
            show some (HO.lst (_ ++ [V.int (n.fdiv (g))])) = _
            rw [fdiv_dvd dn, List.take_succ, hn, Option.toList_some, List.map_append, List.map_append]
            rfl
        · obtain ⟨sG, hacc⟩ := hP
          rw [List.length_map, List.take_length] at hacc
          refine q (g) D G gz ?_ g2 g4 sG hacc
          rw [em, Int.mul_ediv_cancel_left _ gz]
          rcases Int.lt_or_le 0 m with hm | hm
          · exact hm
          · have := Int.mul_nonneg (Int.le_of_lt g0) (show 0 ≤ -m by omega)
            rw [Int.mul_neg] at this
            omega
end
end E1

namespace E1
open PySem PySem.Spec PyProof.Rows L2

/-- what a ladder is -/
def LadR (H0 H : Hp) (T : Addr) (a : List Rat) : Prop := ∃ (R : Addr) (ks : List Rat), H0 R = none ∧ FrL H R ks ∧ (∀ k ∈ ks, Ins k) ∧ ((H T = some (.tup [.str "in", .ref R]) ∧ raise [1] ks = a) ∨ ∃ (L : Addr) (r : List Rat), H T = some (.tup [.str "out", .ref L, .ref R]) ∧ H0 L = none ∧ L ≠ R ∧ FrL H L r ∧ 2 ≤ r.length ∧ Fin_ r ∧ raise r ks = a)
def spLadN : Sp := fun vs H Q _ => ∃ (a : Addr) (n0 : Int) (t : List Int), vs = [.ref a] ∧ H a = some (.lst ((n0 :: t).map V.int)) ∧ n0 ≠ 0 ∧ n0.natAbs < 2 ^ 8000 ∧ t.length ≤ 20 ∧ LadOk (rp (n0 :: t) n0) ∧ ∀ T H', Same H H' → LadR H H' T (rp (n0 :: t) n0) → Q (.ref T) H'
def spLadder : Sp := fun vs H Q _ => ∃ (a : Addr) (qs : List Rat) (D : Int), vs = [.ref a] ∧ FrL H a qs ∧ 0 < qs.length ∧ qs.length ≤ 20 ∧ fn qs 0 ≠ 0 ∧ Btm D (qs.map pr) ∧ (fn qs 0).num.natAbs < 2 ^ 3000 ∧ LadOk (qs.map fun q => q / fn qs 0) ∧ ∀ T H', Same H H' → LadR H H' T (qs.map fun q => q / fn qs 0) → Q (.ref T) H'
section
variable {P : Program} {w : World} {K : PySem.W.Frag} {mg : Str → Option Value} {base : Heap}
theorem sc_numbers_stepped_down : FnScope ["numbers", "first", "last", "one", "other"] ["numbers"] (defScope s_numbers_stepped_down) := ⟨rfl, rfl, rfl, by decide +kernel, rfl, by decide +kernel, by decide +kernel⟩
theorem ok_numbers_stepped_down {f : Addr} {fd : FuncData} (F : Fun K "numbers_stepped_down" "numbers_stepped_down" s_numbers_stepped_down f fd) (z : Zs mg) (c_shortened : Cal P w K mg base 2 "shortened" ["numbers"] spShort) : FnOk P w K mg base CX0 3 f fd ["numbers"] (spStep K) := by
  refine F.ok sc_numbers_stepped_down (fun vs H Q E h => ?_) (fun cdv A outer s H vs Q E hr h => ?_)
  · obtain ⟨a, n0, ns, l, rfl, _⟩ := h
    rfl
  · obtain ⟨a, n0, ns, l, rfl, ha, n00, l0, l1, nb, nz, hl, q⟩ := h
    refine ⟨_, (pss_cons (ps_set (i := 1) sc_numbers_stepped_down.nd rfl (.inr rfl) (pe_ix ix_list (pv 0) pe_int (fun _ _ => rfl)))
      (pss_cons (ps_set (i := 2) sc_numbers_stepped_down.nd rfl (.inr rfl) (pe_ix ix_list (pv 0) (pe_un un_neg pe_int) (fun _ _ => rfl)))
      (pss_one (ps_ret (pe_cal c_shortened hr (pa_cons (pe_lc (own := [("one", 3), ("other", 4)]) (g := gTup K 2 (gCons (gName 3) (gCons (gName 4) gNil))) (tt := tYes) (te := (tOp (rI0 fun i j => V.int (i - j)) (tOp (rI CMulW fun i j => V.int (i * j)) (tVar 1) (tVar 3)) (tOp (rI CMulW fun i j => V.int (i * j)) (tVar 2) (tVar 4)))) (by rfl) sc_numbers_stepped_down.nd (RZ.pi_zipA (by rfl) z.zip (pa_cons (pe_slice sl_list (pv 0) po_none (po_some (pe_un un_neg pe_int))) (pa_cons (pe_revL (pv 0)) pa_nil))) (blkOk_by (own := [("one", 3), ("other", 4)]) (N := ["numbers", "first", "last", "one", "other"]) (sc := defScope s_numbers_stepped_down) (by decide +kernel)) (fun _ _ _ _ _ => by exact (pg_tup (by rfl) (pgs_cons (pg_name (i := 3) sc_numbers_stepped_down.nd rfl (.inl rfl)) (pgs_cons (pg_name (i := 4) sc_numbers_stepped_down.nd rfl (.inl rfl)) pgs_nil)))) (fun _ _ _ _ _ => by exact pts_nil) (fun _ _ _ _ _ => by exact (pe_op op_sub (pe_op op_mulW (pv 1) (pv 3)) (pe_op op_mulW (pv 2) (pv 4))))) pa_nil)))))), ?_⟩
    have hlast : atI ((n0 :: (ns ++ [l])).map V.int) (-1) = some (.int l) := by
      rw [← List.cons_append, List.map_append]
      exact atI_last _ _
    refine ⟨_, rfl, a, _, 0, .int n0, rfl, rfl, SqL.of ha, a0, ?_⟩
    refine ⟨_, rfl, _, rfl, a, _, _, .int l, rfl, rfl, SqL.of ha, hlast, ?_⟩
    refine ⟨_, rfl, _, rfl, _, rfl, a, _, rfl, SqL.of ha, fun C hC => ?_⟩
    have ec : cutV ((n0 :: (ns ++ [l])).map V.int) none (some (-1)) = (n0 :: ns).map V.int := by
      rw [← List.cons_append, List.map_append]
      exact cut_most _ _
    rw [ec]
    have sC := same_new (o := .lst ((n0 :: ns).map V.int)) hC
    refine ⟨_, rfl, a, _, rfl, SqL.of (sC _ _ ha), fun R hR => ?_⟩
    rw [← List.map_reverse]
    have sR := sC.trans (same_new (o := .lst ((n0 :: (ns ++ [l])).reverse.map V.int)) hR)
    have hC2 := (same_new (o := .lst ((n0 :: (ns ++ [l])).reverse.map V.int)) hR) _ _ (upd_same (a := C) (o := .lst ((n0 :: ns).map V.int)) (H := H))
    refine ⟨C, R, _, _, rfl, .inl ⟨SqL.of hC2, SqL.of upd_same, fun D hD => ?_⟩⟩
    have hR2 : (upd (upd H C (.lst ((n0 :: ns).map V.int))) R (.lst ((n0 :: (ns ++ [l])).reverse.map V.int))) R = some (.lst ((n0 :: (ns ++ [l])).reverse.map V.int)) := upd_same
    generalize upd (upd H C (.lst ((n0 :: ns).map V.int))) R (.lst ((n0 :: (ns ++ [l])).reverse.map V.int)) = HR at sR hC2 hR2 hD ⊢
    refine lc_it (walk_zip (K := K) (a := C) (b := R) (xs := (n0 :: ns).map V.int) (ys := (n0 :: (ns ++ [l])).reverse.map V.int) rfl) (fun i G => Same HR G ∧ G D = some (.lst ((stepZ n0 l ((n0 :: ns).take i) ((n0 :: (ns ++ [l])).reverse.take i)).map V.int))) ⟨same_new hD, upd_same⟩ (fun i G _ hP => ⟨SqL.of (hP.1 _ _ hC2), SqL.of (hP.1 _ _ hR2)⟩) (fun i x G G2 hi hP hY => ?_) (fun G hP => ?_)
    · obtain ⟨sG, hacc⟩ := hP
      obtain ⟨Tp, u, v, rfl, nT, rfl, e1, e2⟩ := hY
      replace e1 : ((n0 :: ns).map V.int)[i]? = some u := e1
      replace e2 : ((n0 :: (ns ++ [l])).reverse.map V.int)[i]? = some v := e2
      rw [List.getElem?_map] at e1 e2
      obtain ⟨m, m1, rfl⟩ := Option.map_eq_some_iff.mp e1
      obtain ⟨n, n1, rfl⟩ := Option.map_eq_some_iff.mp e2
      have li := (List.getElem?_eq_some_iff.mp m1).1
      have zm : m.natAbs < 2 ^ 3000 := nz m (by
        have := List.mem_of_getElem? m1
        rw [← List.cons_append]
        exact List.mem_append.mpr (.inl this))
      have zn : n.natAbs < 2 ^ 3000 := nz n (List.mem_reverse.mp (List.mem_of_getElem? n1))
      have zl : l.natAbs < 2 ^ 1000 := by omega
      have sN := same_new (o := .tup [.int m, .int n]) nT
      refine ⟨Tp, [.int m, .int n], rfl, SqT.of upd_same, rfl, _, _, rfl, _, _, rfl, rfl, rfl, ?_⟩
      refine ⟨_, rfl, _, rfl, _, _, rfl, rfl, wide_mul nb zm (by decide) (by decide) (by decide), _, rfl, _, rfl, _, _, rfl, rfl, wide_mul zl zn (by decide) (by decide) (by decide), _, _, rfl, rfl, _, sN _ _ hacc, ?_, fun b o e => ?_, ?_⟩
      · unfold stepZ
        rw [List.length_map, List.length_zipWith, List.length_take]
        rw [List.length_cons] at li
        exact small1000 (by omega)
      · rw [upd_ne (ne_of_none e hD)]
        exact sN _ _ (sG _ _ e)
      · rw [upd_same, stepZ_take n0 l _ _ i m n m1 n1, List.map_append]
        rfl
    · obtain ⟨sG, hacc⟩ := hP
      have e1 : ((n0 :: ns).map V.int).length = (n0 :: ns).length := List.length_map _
      have e2 : ((n0 :: (ns ++ [l])).reverse.map V.int).length = ns.length + 2 := by
        rw [List.length_map, List.length_reverse, List.length_cons, List.length_append]
        rfl
      rw [e1, e2, show min (n0 :: ns).length (ns.length + 2) = (n0 :: ns).length by rw [List.length_cons]; omega, List.take_length] at hacc
      have et : stepZ n0 l (n0 :: ns) ((n0 :: (ns ++ [l])).reverse.take (n0 :: ns).length) = stepZ n0 l (n0 :: ns) (n0 :: (ns ++ [l])).reverse := by
        unfold stepZ
        have zz : List.zipWith (fun o r => n0 * o - l * r) (n0 :: ns) (n0 :: (ns ++ [l])).reverse = List.zipWith (fun o r => n0 * o - l * r) ((n0 :: ns).take (min (n0 :: ns).length (n0 :: (ns ++ [l])).reverse.length)) ((n0 :: (ns ++ [l])).reverse.take (min (n0 :: ns).length (n0 :: (ns ++ [l])).reverse.length)) := List.zipWith_eq_zipWith_take_min
        rw [zz]
        rw [show min (n0 :: ns).length (n0 :: (ns ++ [l])).reverse.length = (n0 :: ns).length by rw [List.length_reverse, List.length_cons, List.length_cons, List.length_append]; show min _ (_ + 1 + 1) = _; omega, List.take_length]
      rw [et] at hacc
      have er : (n0 :: (ns ++ [l])).reverse = l :: (n0 :: ns).reverse := by simp
      have hd : stepZ n0 l (n0 :: ns) (n0 :: (ns ++ [l])).reverse = (n0 * n0 - l * l) :: stepZ n0 l ns (n0 :: ns).reverse := by
        rw [er]
        rfl
      rw [hd] at hacc q
      have sq := sq_pos (D := n0) (K := l) (by omega)
      refine ⟨D, n0 * n0 - l * l, stepZ n0 l ns (n0 :: ns).reverse, rfl, hacc, sq.1, ?_, ?_, fun g M H' g0 gp gd gm s' hM => q g M H' g0 gp gd gm (sR.trans (sG.trans s')) hM⟩
      · have := Nat.mul_lt_mul'' nb nb
        rw [← Nat.pow_add] at this
        exact Nat.lt_of_le_of_lt sq.2 (Nat.lt_trans this (Nat.pow_lt_pow_right (by decide) (by decide)))
      · unfold stepZ
        rw [List.length_zipWith]
        omega
end
end E1

namespace E1
open PySem PySem.Spec PyProof.Rows L2

theorem LadR.pre {H0 H1 H : Hp} {T : Addr} {a : List Rat} (h : LadR H1 H T a) (s : Same H0 H1) : LadR H0 H T a := by
  obtain ⟨R, ks, hR, fR, ik, h⟩ := h
  refine ⟨R, ks, s.free hR, fR, ik, ?_⟩
  rcases h with h | ⟨L, r, e, hL, h⟩
  · exact .inl h
  · exact .inr ⟨L, r, e, s.free hL, h⟩
theorem rp_last {n0 l : Int} {t : List Int} : (rp (n0 :: (t ++ [l])) n0).getD ((rp (n0 :: (t ++ [l])) n0).length - 1) 0 = (l : Rat) / (n0 : Rat) := by
  have e : (rp (n0 :: (t ++ [l])) n0) = rp (n0 :: t) n0 ++ [(l : Rat) / (n0 : Rat)] := by
    unfold rp
    rw [← List.cons_append, List.map_append]
    rfl
  rw [e, List.length_append, List.getD_eq_getElem?_getD, List.getElem?_append_right (by simp)]
  simp
theorem ins_iff {n0 l : Int} (h : 0 < n0) : Ins ((l : Rat) / (n0 : Rat)) ↔ -n0 < l ∧ l < n0 := by
  have hn : (0 : Rat) < (n0 : Rat) := by exact_mod_cast h
  have e : (l : Rat) / n0 * n0 = l := by
    rw [Rat.div_def, Rat.mul_assoc, Rat.inv_mul_cancel _ (cast_ne (by omega)), Rat.mul_one]
  generalize (l : Rat) / n0 = k at *
  constructor
  · intro ⟨h1, h2⟩
    have a1 : (k + 1) * (n0 : Rat) > 0 := Rat.mul_pos (by grind) hn
    have a2 : (1 - k) * (n0 : Rat) > 0 := Rat.mul_pos (by grind) hn
    have b1 : -(n0 : Rat) < (l : Rat) := by grind
    have b2 : (l : Rat) < (n0 : Rat) := by grind
    exact ⟨by exact_mod_cast b1, by exact_mod_cast b2⟩
  · intro ⟨h1, h2⟩
    have b1 : -(n0 : Rat) < (l : Rat) := by exact_mod_cast h1
    have b2 : (l : Rat) < (n0 : Rat) := by exact_mod_cast h2
    refine ⟨?_, ?_⟩
    · by_cases c : -1 < k
      · exact c
      · exfalso
        have c' : k ≤ -1 := Rat.not_lt.mp c
        have : 0 ≤ (-1 - k) * (n0 : Rat) := Rat.mul_nonneg (by grind) (by grind)
        grind
    · by_cases c : k < 1
      · exact c
      · exfalso
        have c' : 1 ≤ k := Rat.not_lt.mp c
        have : 0 ≤ (k - 1) * (n0 : Rat) := Rat.mul_nonneg (by grind) (by grind)
        grind
theorem LadOk.inv {a : List Rat} (h : LadOk a) (l : 2 ≤ a.length) : Sz a ∧ a.getD 0 0 = 1 ∧ (Ins (a.getD (a.length - 1) 0) → LadOk (stR (a.getD (a.length - 1) 0) a)) := by
  cases h with
  | one => exact absurd l (by decide)
  | out s l f n => exact ⟨s, f, fun z => absurd z n⟩
  | step s l f n r => exact ⟨s, f, fun _ => r⟩
theorem prim_of {ns : List Int} {g : Int} (g0 : g ≠ 0) (gd : ∀ n ∈ ns, g ∣ n) (gm : ∀ d, (∀ n ∈ ns, d ∣ n) → d ∣ g) : Prim (ns.map (· / g)) := fun d hd => by
  have h1 : ∀ n ∈ ns, g * d ∣ n := fun n hn => by
    obtain ⟨m, rfl⟩ := gd n hn
    have := hd _ (List.mem_map.mpr ⟨_, hn, rfl⟩)
    rw [Int.mul_ediv_cancel_left _ g0] at this
    exact Int.mul_dvd_mul_left g this
  obtain ⟨c, hc⟩ := gm _ h1
  refine ⟨c, ?_⟩
  apply Int.eq_of_mul_eq_mul_left g0
  rw [Int.mul_one, ← Int.mul_assoc]
  exact hc
theorem Fr.lowR {H : Hp} {p : Addr} {t b : Int} (hb : b ≠ 0) (h : H p = some (.tup [.int (lowT t b), .int (lowB t b)])) : Fr H p ((t : Rat) / (b : Rat)) := by
  refine Fr.low hb ?_ h
  apply div_is hb
  rw [Rat.div_def, Rat.mul_assoc, Rat.inv_mul_cancel _ (cast_ne hb), Rat.mul_one]
section
variable {P : Program} {w : World} {K : PySem.W.Frag} {mg : Str → Option Value} {base : Heap}
theorem sc_ladder_by_numbers : FnScope ["numbers", "rungs", "number"] ["numbers"] (defScope s_ladder_by_numbers) := ⟨rfl, rfl, rfl, by decide +kernel, rfl, by decide +kernel, by decide +kernel⟩
theorem ok_ladder_by_numbers {f : Addr} {fd : FuncData} (F : Fun K "ladder_by_numbers" "ladder_by_numbers" s_ladder_by_numbers f fd) (z : Zs mg) (c_shortened : Cal P w K mg base 2 "shortened" ["numbers"] spShort) (c_numbers_stepped_down : Cal P w K mg base 3 "numbers_stepped_down" ["numbers"] (spStep K)) (c_lowest : Cal P w K mg base 2 "lowest" ["top", "bottom"] spLow) : FnOk P w K mg base CX0 4 f fd ["numbers"] spLadN := by
  refine F.ok sc_ladder_by_numbers (fun vs H Q E h => ?_) (fun cdv A outer s H vs Q E hr h => ?_)
  · obtain ⟨a, n0, t, rfl, _⟩ := h
    rfl
  · obtain ⟨a, n0, t, rfl, ha, n00, nb, hl, lo, q⟩ := h
    refine ⟨_, (pss_cons (ps_set (i := 0) sc_ladder_by_numbers.nd rfl (.inr rfl) (pe_cal c_shortened hr (pa_cons (pv 0) pa_nil)))
      (pss_cons (ps_set (i := 1) sc_ladder_by_numbers.nd rfl (.inl rfl) (pe_lst pa_nil))
      (pss_cons (ps_while PassesOwn.never (pt_cmpR op_gt (pe_callB call_len_seq (by rfl) z.len PySem.boot_len (pa_cons (pv 0) pa_nil)) pe_int (nomark _)) (pss_cons (ps_if (pt_cmpR op_ge (pe_callB call_abs (by rfl) z.abs (by decide +kernel) (pa_cons (pe_ix ix_list (pv 0) (pe_un un_neg pe_int) (fun _ _ => rfl)) pa_nil)) (pe_ix ix_list (pv 0) pe_int (fun _ _ => rfl)) (nomark _)) (pss_one (ps_ret (pe_tup (pa_cons pe_str (pa_cons (pe_lc (own := [("number", 2)]) (g := gName 2) (tt := tYes) (te := (tCall spLow [] E0 (tCons (tVar 2) (tCons (tOp (rIxL K) (tVar 0) (tC (.int 0))) tNil)))) (by rfl) sc_ladder_by_numbers.nd (pi_list (pv 0)) (blkOk_by (own := [("number", 2)]) (N := ["numbers", "rungs", "number"]) (sc := defScope s_ladder_by_numbers) (by decide +kernel)) (fun _ _ _ _ _ => by exact (pg_name (i := 2) sc_ladder_by_numbers.nd rfl (.inl rfl))) (fun _ _ _ _ _ => by exact pts_nil) (fun _ _ _ _ _ => by exact (pe_cal c_lowest hr (pa_cons (pv 2) (pa_cons (pe_ix ix_list (pv 0) pe_int (fun _ _ => rfl)) pa_nil))))) (pa_cons (pv 1) pa_nil)))))) pss_nil)
      (pss_cons (ps_set (i := 1) sc_ladder_by_numbers.nd rfl (.inl rfl) (pe_lst (pa_cons (pe_cal c_lowest hr (pa_cons (pe_ix ix_list (pv 0) (pe_un un_neg pe_int) (fun _ _ => rfl)) (pa_cons (pe_ix ix_list (pv 0) pe_int (fun _ _ => rfl)) pa_nil))) (StX.pa_star (pv 1) pa_nil))))
      (pss_one (ps_set (i := 0) sc_ladder_by_numbers.nd rfl (.inr rfl) (pe_cal c_numbers_stepped_down hr (pa_cons (pv 0) pa_nil)))))))
      (pss_one (ps_ret (pe_tup (pa_cons pe_str (pa_cons (pv 1) pa_nil)))))))), ?_⟩
    refine ⟨_, rfl, a, n0, t, rfl, ha, n00, nb, by omega, fun g A0 H0 g0 gp gd gm s0 hA0 => ?_⟩
    refine ⟨(by show 0 ≤ sizeLine; decide), fun R0 hR0 => ?_⟩
    dsimp only [gName, tSeq]
    have er := rp_scale (ns := n0 :: t) g0 n00 (gd n0 List.mem_cons_self) gd
    rw [← er] at lo q
    refine while_by (fun σ H1 => ∃ (A R : Addr) (m0 : Int) (u : List Int) (ks : List Rat), σ = [some (.ref A), some (.ref R), none] ∧ Same H H1 ∧ H1 A = some (.lst ((m0 :: u).map V.int)) ∧ FrL H1 R ks ∧ 0 < m0 ∧ Prim (m0 :: u) ∧ LadOk (rp (m0 :: u) m0) ∧ raise (rp (m0 :: u) m0) ks = rp ((n0 :: t).map (· / g)) (n0 / g) ∧ (∀ k ∈ ks, Ins k) ∧ u.length + ks.length ≤ 20 ∧ H R = none)
      (fun σ H1 => match σ with | [some (.ref A), _, _] => (match H1 A with | some (.lst xs) => xs.length | _ => 0) | _ => 0) ⟨A0, R0, n0 / g, t.map (· / g), [], rfl, s0.trans (same_new hR0), same_new hR0 _ _ hA0, ⟨[], upd_same, .nil⟩, gp, prim_of g0 gd gm, lo, rfl, fun k h => absurd h List.not_mem_nil, by rw [List.length_map]; exact hl, s0.free hR0⟩ (fun σ H1 hP => ?_) (fun σ H Q Q' m hh => ?_)
    · obtain ⟨A, R, m0, u, ks, rfl, s1, hA, hR, m00, pm, lk, ra, ik, ln, hR0⟩ := hP
      obtain ⟨rs, hRs, hRf⟩ := id hR
      have lrs := FrsAt.len hRf
      refine ⟨_, rfl, A, _, rfl, .inl (SqL.of hA), _, _, rfl, rfl, _, rfl, ?_⟩
      rcases List.eq_nil_or_concat u with rfl | ⟨u, l, rfl⟩
      · refine iteF ?_
        refine ⟨_, rfl, (by show 2 ≤ sizeLine; decide), fun T hT => ?_⟩
        refine q T _ (s1.trans (same_new hT)) ⟨R, ks, hR0, hR.same (same_new hT), ik, .inl ⟨upd_same, ?_⟩⟩
        rw [← ra]
        have : rp [m0] m0 = [1] := one_list (rp_len _ _) (rp_first (by omega))
        rw [this]
      · rw [List.concat_eq_append] at *
        have L1 : ((m0 :: (u ++ [l])).map V.int).length = u.length + 2 := by
          rw [List.length_map, List.length_cons, List.length_append]
          rfl
        have al : 2 ≤ (rp (m0 :: (u ++ [l])) m0).length := by
          rw [rp_len, List.length_cons, List.length_append]
          show 2 ≤ u.length + 1 + 1
          omega
        obtain ⟨sz, f1, nx⟩ := lk.inv al
        obtain ⟨z0, zs⟩ := sz.nums pm (by omega)
        have b4 : m0.natAbs < 2 ^ 4000 := Nat.lt_trans z0 (Nat.pow_lt_pow_right (by decide) (by decide))
        rw [rp_last] at nx
        have lst : atI ((m0 :: (u ++ [l])).map V.int) (-1) = some (.int l) := by
          rw [← List.cons_append, List.map_append]
          exact atI_last _ _
        rw [decide_eq_true (show ((((m0 :: (u ++ [l])).map V.int).length : Nat) : Int) > 1 by rw [L1]; omega)]
        refine iteT ?_
        refine ⟨_, rfl, _, rfl, A, _, _, .int l, rfl, rfl, SqL.of hA, lst, _, rfl, _, rfl, A, _, 0, .int m0, rfl, rfl, SqL.of hA, a0, _, _, rfl, rfl, _, rfl, ite2 (fun cc => ?_) (fun cc => ?_)⟩
        · have h2 : absI l ≥ m0 := toB cc
          have ni : ¬ Ins ((l : Rat) / (m0 : Rat)) := fun z => by
            have := (ins_iff m00).mp z
            unfold absI at h2
            split at h2 <;> omega
          refine ⟨_, rfl, A, rfl, ⟨_, SqL.of hA⟩, fun D hD => lc_list (K := K) (a := A) (xs := (m0 :: (u ++ [l])).map V.int) (fun i G => Same H1 G ∧ ∃ vs, G D = some (.lst vs) ∧ FrsAt G vs ((rp (m0 :: (u ++ [l])) m0).take i)) ⟨same_new hD, [], upd_same, .nil⟩ (fun i G _ hP => SqL.of (hP.1 _ _ hA)) (fun i x G hx hP => ?_) (fun G hP => ?_)⟩
          · obtain ⟨sG, vs, hvs, fvs⟩ := hP
            rw [List.getElem?_map] at hx
            obtain ⟨n, hn, rfl⟩ := Option.map_eq_some_iff.mp hx
            have li := (List.getElem?_eq_some_iff.mp hn).1
            rw [List.length_cons, List.length_append, List.length_singleton] at li
            have lv := FrsAt.len fvs
            rw [List.length_take, rp_len, List.length_cons, List.length_append, List.length_singleton] at lv
            refine ⟨rfl, _, rfl, _, rfl, A, _, 0, .int m0, rfl, rfl, SqL.of (sG _ _ hA), a0, n, m0, rfl, by omega, b4, fun lo hlo => ?_⟩
            have slo := same_new (o := .tup [.int (lowT n m0), .int (lowB n m0)]) hlo
            have ne : lo ≠ D := fun e => by
              rw [e, hvs] at hlo
              cases hlo
            refine ⟨_, slo _ _ hvs, small1000 (by rw [List.length_append] at ln; omega), fun b o e => ?_, vs ++ [.ref lo], upd_same, ?_⟩
            · rw [upd_ne (ne_of_none e hD)]
              exact slo _ _ (sG _ _ e)
            · have et : (rp (m0 :: (u ++ [l])) m0).take (i + 1) = (rp (m0 :: (u ++ [l])) m0).take i ++ [(n : Rat) / (m0 : Rat)] := by
                rw [List.take_succ]
                congr 1
                unfold rp
                rw [List.getElem?_map, hn]
                rfl
              rw [et]
              refine FrsAt.app ((PrsAt.same fvs slo).but SameBut.upd (slo _ _ hvs)) (FrsAt.one (Fr.lowR (by omega) ?_))
              rw [upd_ne ne]
              exact upd_same
          · obtain ⟨sG, vs, hvs, fvs⟩ := hP
            rw [L1, show u.length + 2 = (rp (m0 :: (u ++ [l])) m0).length by rw [rp_len, List.length_cons, List.length_append]; rfl, List.take_length] at fvs
            refine ⟨_, rfl, (by show 3 ≤ sizeLine; decide), fun T hT => ?_⟩
            have sT := same_new (o := .tup [.str "out", .ref D, .ref R]) hT
            refine q T _ (s1.trans (sG.trans sT)) ⟨R, ks, hR0, hR.same (sG.trans sT), ik, .inr ⟨D, _, upd_same, s1.free hD, (fun e => by rw [e, hRs] at hD; cases hD), ⟨vs, sT _ _ hvs, PrsAt.same fvs sT⟩, al, .inr ⟨al, f1, by rw [rp_last]; exact ni⟩, ra⟩⟩
        · have h2 : ¬ absI l ≥ m0 := toNB cc
          have lm : -m0 < l ∧ l < m0 := by
            unfold absI at h2
            split at h2 <;> omega
          have ki : Ins ((l : Rat) / (m0 : Rat)) := (ins_iff m00).mpr lm
          refine ⟨_, rfl, _, rfl, A, _, _, .int l, rfl, rfl, SqL.of hA, lst, _, rfl, A, _, 0, .int m0, rfl, rfl, SqL.of hA, a0, l, m0, rfl, by omega, b4, fun lo hlo => ?_⟩
          have slo := same_new (o := .tup [.int (lowT l m0), .int (lowB l m0)]) hlo
          refine ⟨_, rfl, R, rs, rfl, .inr (SqL.of (slo _ _ hRs)), ?_, fun R2 hR2 => ?_⟩
          · rw [List.append_nil, List.length_cons]
            exact Nat.le_of_lt (small1000' (by rw [List.length_append] at ln; omega))
          rw [List.append_nil]
          have sR2 := slo.trans (same_new (o := .lst (.ref lo :: rs)) hR2)
          have fR0 : H R2 = none := (s1.trans slo).free hR2
          have fR2 : FrL (upd (upd H1 lo (.tup [.int (lowT l m0), .int (lowB l m0)])) R2 (.lst (.ref lo :: rs))) R2 ((l : Rat) / (m0 : Rat) :: ks) := by
            refine ⟨_, upd_same, .cons ?_ (PrsAt.same hRf sR2)⟩
            have : Fr (upd (upd H1 lo (.tup [.int (lowT l m0), .int (lowB l m0)])) R2 (.lst (.ref lo :: rs))) lo ((l : Rat) / (m0 : Rat)) := Fr.lowR (by omega) (same_new hR2 _ _ upd_same)
            exact this
          generalize upd (upd H1 lo (.tup [.int (lowT l m0), .int (lowB l m0)])) R2 (.lst (.ref lo :: rs)) = HR at sR2 fR2 ⊢
          refine ⟨_, rfl, A, m0, u, l, rfl, sR2 _ _ hA, m00, lm.1, lm.2, z0, zs, by rw [List.length_append] at ln; omega, fun g2 A2 H2 g20 gp2 gd2 gm2 s2 hA2 => ?_⟩
          have dl : (m0 :: (u ++ [l])).dropLast = m0 :: u := by
            rw [← List.cons_append]
            exact List.dropLast_concat
          have hs0 := sq_pos (D := m0) (K := l) (by omega)
          have hd0 : stepZ m0 l (m0 :: u) (m0 :: (u ++ [l])).reverse = (m0 * m0 - l * l) :: stepZ m0 l u (m0 :: u).reverse := by
            have er : (m0 :: (u ++ [l])).reverse = l :: (m0 :: u).reverse := by simp
            rw [er]
            rfl
          have e1 := rp_step (ns := m0 :: (u ++ [l])) (n0 := m0) (l := l) (by omega) hs0.1
          rw [dl] at e1
          rw [hd0] at e1 gd2 gm2 hA2
          have e2 := rp_scale (ns := (m0 * m0 - l * l) :: stepZ m0 l u (m0 :: u).reverse) g20 hs0.1 (gd2 _ List.mem_cons_self) gd2
          have e3 : rp ((m0 * m0 - l * l) / g2 :: (stepZ m0 l u (m0 :: u).reverse).map (· / g2)) ((m0 * m0 - l * l) / g2) = stR ((l : Rat) / (m0 : Rat)) (rp (m0 :: (u ++ [l])) m0) := e2.trans e1
          refine ⟨⟨A2, R2, (m0 * m0 - l * l) / g2, (stepZ m0 l u (m0 :: u).reverse).map (· / g2), (l : Rat) / (m0 : Rat) :: ks, rfl, s1.trans (sR2.trans s2), hA2, fR2.same s2, gp2, prim_of g20 gd2 gm2, ?_, ?_, ?_, ?_, fR0⟩, ?_⟩
          · rw [e3]
            exact nx ki
          · rw [e3, raise_cons, ra_st ki.sq al f1 rp_last]
            exact ra
          · intro k hk
            rcases List.mem_cons.mp hk with rfl | hk
            · exact ki
            · exact ik k hk
          · rw [List.length_map, List.length_cons]
            unfold stepZ
            rw [List.length_zipWith, List.length_reverse, List.length_cons]
            rw [List.length_append, List.length_singleton] at ln
            omega
          · show (match H2 A2 with | some (.lst xs) => xs.length | _ => 0) < (match H1 A with | some (.lst xs) => xs.length | _ => 0)
            rw [hA2, hA]
            show (List.map V.int _).length < (List.map V.int (m0 :: (u ++ [l]))).length
            rw [L1, List.length_map, List.length_map, List.length_cons]
            unfold stepZ
            rw [List.length_zipWith, List.length_reverse, List.length_cons]
            omega
    · obtain ⟨v, e, p, ys, e1, e2, i, j, e3, e4, kk, ek, hq⟩ := hh
      exact ⟨v, e, p, ys, e1, e2, i, j, e3, e4, kk, ek, m _ _ hq⟩
end
end E1

namespace E1
open PySem PySem.Spec PyProof.Rows L2

theorem top_q {q : Rat} {c : Int} (h : (q.den : Int) ∣ c) : ((q.num * (c / (q.den : Int)) : Int) : Rat) = q * (c : Rat) := by
  obtain ⟨m, rfl⟩ := h
  rw [Int.mul_ediv_cancel_left _ (den_ne q)]
  have e := q_eq q
  push_cast at e ⊢
  rw [← Rat.mul_assoc, e]
theorem tops_rp {c n0 : Int} {q0 : Rat} (hc : 0 < c) (h0 : q0 ≠ 0) (d0 : (q0.den : Int) ∣ c) (hn : n0 = q0.num * (c / (q0.den : Int))) {qs : List Rat} (hd : ∀ q ∈ qs, (q.den : Int) ∣ c) : rp (tops c (qs.map pr)) n0 = qs.map fun q => q / q0 := by
  unfold rp tops
  rw [List.map_map, List.map_map]
  apply List.map_congr_left
  intro q hq
  show ((q.num * (c / (q.den : Int)) : Int) : Rat) / (n0 : Rat) = q / q0
  rw [hn, top_q (hd q hq), top_q d0]
  have c0 : (c : Rat) ≠ 0 := cast_ne (by omega)
  refine div_of ?_ ?_
  · intro z
    rcases Rat.mul_eq_zero.mp z with x | x
    · exact h0 x
    · exact c0 x
  · rw [← Rat.mul_assoc, Rat.div_def, Rat.mul_assoc q, Rat.inv_mul_cancel _ h0, Rat.mul_one]
/-- whole numbers over a common bottom -/
theorem tops_rp1 {c : Int} (hc : 0 < c) {qs : List Rat} (hd : ∀ q ∈ qs, (q.den : Int) ∣ c) : rp (tops c (qs.map pr)) c = qs := by
  unfold rp tops
  rw [List.map_map, List.map_map]
  have : qs.map (fun q => q) = qs := List.map_id' qs
  rw [← this, List.map_map]
  apply List.map_congr_left
  intro q hq
  show ((q.num * (c / (q.den : Int)) : Int) : Rat) / (c : Rat) = q
  rw [top_q (hd q hq)]
  exact div_of (cast_ne (by omega)) rfl
def raZ (t b : Int) (ns : List Int) : List Int := List.zipWith (fun x y => b * x + t * y) (ns ++ [0]) (ns ++ [0]).reverse
theorem raZ_rp {k : Rat} {c : Int} (hc : c ≠ 0) (ns : List Int) : rp (raZ k.num k.den ns) (c * (k.den : Int)) = raR k (rp ns c) := by
  unfold raR raZ rp
  have c0 : (c : Rat) ≠ 0 := cast_ne hc
  have e0 : List.map (fun n : Int => (n : Rat) / (c : Rat)) ns ++ [0] = List.map (fun n : Int => (n : Rat) / (c : Rat)) (ns ++ [0]) := by
    rw [List.map_append]
    show _ = _ ++ [((0 : Int) : Rat) / (c : Rat)]
    rw [show ((0 : Int) : Rat) / (c : Rat) = 0 from div_of c0 (by push_cast; grind)]
  rw [e0, List.map_zipWith, ← List.map_reverse, List.zipWith_map]
  congr 1
  funext x y
  have d0 : ((k.den : Int) : Rat) ≠ 0 := cast_ne (den_ne k)
  have ek := q_eq k
  have i1 : (c : Rat) * (c : Rat)⁻¹ = 1 := Rat.mul_inv_cancel _ c0
  refine div_of (cast_ne (Int.mul_ne_zero hc (den_ne k))) ?_
  rw [Rat.div_def, Rat.div_def]
  push_cast at *
  generalize (c : Rat)⁻¹ = v at *
  rw [← ek]
  grind
def spRais : Sp := fun vs H Q _ => ∃ (a b : Addr) (rs ks : List Rat) (D : Int), vs = [.ref a, .ref b] ∧ FrL H a rs ∧ FrL H b ks ∧ 0 < rs.length ∧ rs.length ≤ 10 ∧ ks.length ≤ 10 ∧ Btm D (rs.map pr) ∧ (∀ k ∈ ks, k.den < 2 ^ 20 ∧ k.num.natAbs < 2 ^ 20) ∧ ∀ T H', H T = none → Same H H' → FrL H' T (raise rs ks) → Q (.ref T) H'
def spRaisN : Sp := fun vs H Q _ => ∃ (a b : Addr) (ns : List Int) (c : Int) (ks : List Rat), vs = [.ref a, .int c, .ref b] ∧ H a = some (.lst (ns.map V.int)) ∧ FrL H b ks ∧ 0 < c ∧ c.natAbs < 2 ^ 2000 ∧ (∀ n ∈ ns, n.natAbs < 2 ^ 5000) ∧ ns.length ≤ 10 ∧ ks.length ≤ 10 ∧ (∀ k ∈ ks, k.den < 2 ^ 20 ∧ k.num.natAbs < 2 ^ 20) ∧ ∀ T H', H T = none → Same H H' → FrL H' T (raise (rp ns c) ks) → Q (.ref T) H'
section
variable {P : Program} {w : World} {K : PySem.W.Frag} {mg : Str → Option Value} {base : Heap}
theorem sc_ladder : FnScope ["bottom", "numbers", "common", "place"] ["bottom"] (defScope s_ladder) := ⟨rfl, rfl, rfl, by decide +kernel, rfl, by decide +kernel, by decide +kernel⟩
theorem ok_ladder {f : Addr} {fd : FuncData} (F : Fun K "ladder" "ladder" s_ladder f fd) (c_check_bottom : Cal P w K mg base 5 "check_bottom" ["thing"] spChkB) (c_cleared : Cal P w K mg base 3 "cleared" ["pairs"] spCleared) (c_is_long : Cal P w K mg base 1 "is_long" ["common"] spLong) (c_ladder_by_numbers : Cal P w K mg base 4 "ladder_by_numbers" ["numbers"] spLadN) : FnOk P w K mg base CX0 6 f fd ["bottom"] spLadder := by
  refine F.ok sc_ladder (fun vs H Q E h => ?_) (fun cdv A outer s H vs Q E hr h => ?_)
  · obtain ⟨a, qs, D, rfl, _⟩ := h
    rfl
  · obtain ⟨a, qs, D, rfl, hq, l0, l1, q0, bt, n0b, lo, q⟩ := h
    refine ⟨_, (pss_cons (ps_expr (pe_cal c_check_bottom hr (pa_cons (pv 0) pa_nil)))
      (pss_cons (ps_asg (pe_cal c_cleared hr (pa_cons (pv 0) pa_nil)) (pg_tup (by rfl) (pgs_cons (pg_name (i := 1) sc_ladder.nd rfl (.inl rfl)) (pgs_cons (pg_name (i := 2) sc_ladder.nd rfl (.inl rfl)) pgs_nil))))
      (pss_cons (ps_if (pt_val (pe_cal c_is_long hr (pa_cons (pv 2) pa_nil))) (pss_one ps_never) pss_nil)
      (pss_one (ps_ret (pe_cal c_ladder_by_numbers hr (pa_cons (pv 1) pa_nil))))))), ?_⟩
    refine ⟨_, rfl, a, qs, rfl, hq, by omega, l0, q0, fun H1 S1 => ?_⟩
    obtain ⟨vs, ha, lv, hv⟩ := (hq.same S1).len
    obtain ⟨c0, cd, cp⟩ := bt.com
    refine ⟨_, rfl, a, vs, qs.map pr, D, rfl, ha, hv, bt, by rw [List.length_map]; omega, fun Tp l H2 S2 hT hl => ?_⟩
    have cl := bt.lt c0 cd
    generalize com ((qs.map pr).map (·.2)) = c at *
    refine ⟨Tp, _, rfl, SqT.of hT, rfl, _, _, rfl, _, _, rfl, rfl, ?_⟩
    refine ⟨_, rfl, c, rfl, cl, _, rfl, iteF ?_⟩
    have hd : ∀ q ∈ qs, (q.den : Int) ∣ c := fun q hq => cp (pr q) (List.mem_map.mpr ⟨q, hq, rfl⟩)
    obtain ⟨x0, qt, rfl⟩ : ∃ x0 qt, qs = x0 :: qt := by
      cases qs with
      | nil => exact absurd l0 (by decide)
      | cons x t => exact ⟨x, t, rfl⟩
    replace q0 : x0 ≠ 0 := q0
    replace n0b : x0.num.natAbs < 2 ^ 3000 := n0b
    have dx := hd x0 List.mem_cons_self
    have e1 := tops_rp c0 q0 dx rfl hd
    have cq : 0 < c / (x0.den : Int) := Int.ediv_pos_of_pos_of_dvd c0 (Int.le_of_lt (den_ge x0)) dx
    have cb : (c / (x0.den : Int)).natAbs < 2 ^ 2000 := by
      have h2 : c / (x0.den : Int) ≤ c := Int.ediv_le_self _ (by omega)
      omega
    refine ⟨_, rfl, l, x0.num * (c / (x0.den : Int)), tops c (qt.map pr), rfl, hl, Int.mul_ne_zero (num_ne q0) (by omega), ?_, ?_, ?_, fun T H3 S3 hR => q T H3 (S1.trans (S2.trans S3)) ?_⟩
    · rw [Int.natAbs_mul]
      have := Nat.mul_lt_mul'' n0b cb
      rw [← Nat.pow_add] at this
      exact up this (by decide)
    · unfold tops
      rw [List.length_map, List.length_map]
      rw [List.length_cons] at l1
      omega
    · have e2 : rp (x0.num * (c / (x0.den : Int)) :: tops c (qt.map pr)) (x0.num * (c / (x0.den : Int))) = (x0 :: qt).map fun q => q / x0 := e1
      rw [e2]
      exact lo
    · have e2 : rp (x0.num * (c / (x0.den : Int)) :: tops c (qt.map pr)) (x0.num * (c / (x0.den : Int))) = (x0 :: qt).map fun q => q / x0 := e1
      rw [e2] at hR
      exact hR.pre (S1.trans S2)
end
end E1

namespace E1
open PySem PySem.Spec PyProof.Rows L2

theorem raZ_len (t b : Int) (ns : List Int) : (raZ t b ns).length = ns.length + 1 := by
  unfold raZ
  rw [List.length_zipWith, List.length_reverse, List.length_append, Nat.min_self]
  rfl
theorem raZ_take (t b : Int) (xs ys : List Int) (i : Nat) (x y : Int) (hx : xs[i]? = some x) (hy : ys[i]? = some y) : List.zipWith (fun x y => b * x + t * y) (xs.take (i + 1)) (ys.take (i + 1)) = List.zipWith (fun x y => b * x + t * y) (xs.take i) (ys.take i) ++ [b * x + t * y] := by
  have lx := (List.getElem?_eq_some_iff.mp hx).1
  have ly := (List.getElem?_eq_some_iff.mp hy).1
  rw [List.take_succ, List.take_succ, hx, hy, Option.toList_some, Option.toList_some, List.zipWith_append (by rw [List.length_take, List.length_take]; omega)]
  rfl
theorem zip_mem {f : Int → Int → Int} : ∀ {xs ys : List Int} {z : Int}, z ∈ List.zipWith f xs ys → ∃ x ∈ xs, ∃ y ∈ ys, z = f x y
  | [], _, _, h => by cases h
  | _ :: _, [], _, h => by cases h
  | x :: xs, y :: ys, z, h => by
    rcases List.mem_cons.mp h with rfl | h
    · exact ⟨x, List.mem_cons_self, y, List.mem_cons_self, rfl⟩
    · obtain ⟨a, ha, b, hb, e⟩ := zip_mem h
      exact ⟨a, List.mem_cons_of_mem _ ha, b, List.mem_cons_of_mem _ hb, e⟩
theorem raZ_lt {t b : Int} {ns : List Int} {e : Nat} (ht : t.natAbs < 2 ^ 20) (hb : b.natAbs < 2 ^ 20) (hn : ∀ n ∈ ns, n.natAbs < 2 ^ e) : ∀ n ∈ raZ t b ns, n.natAbs < 2 ^ (e + 21) := fun n h => by
  obtain ⟨x, hx, y, hy, rfl⟩ := zip_mem h
  have key : ∀ x ∈ ns ++ [0], x.natAbs < 2 ^ e := fun x hx => by
    rcases List.mem_append.mp hx with h | h
    · exact hn x h
    · rw [List.mem_singleton.mp h]
      exact Nat.two_pow_pos e
  have h1 : b.natAbs * x.natAbs < 2 ^ 20 * 2 ^ e := Nat.mul_lt_mul'' hb (key x hx)
  have h2 : t.natAbs * y.natAbs < 2 ^ 20 * 2 ^ e := Nat.mul_lt_mul'' ht (key y (List.mem_reverse.mp hy))
  rw [← Int.natAbs_mul] at h1 h2
  rw [Nat.pow_add, show 2 ^ 21 = 2 ^ 20 * 2 by decide, ← Nat.mul_assoc, Nat.mul_comm (2 ^ e)]
  omega
section
variable {P : Program} {w : World} {K : PySem.W.Frag} {mg : Str → Option Value} {base : Heap}
theorem sc_raised_by_numbers : FnScope ["numbers", "common", "ks", "top", "bottom", "longer", "number", "one", "other"] ["numbers", "common", "ks"] (defScope s_raised_by_numbers) := ⟨rfl, rfl, rfl, by decide +kernel, rfl, by decide +kernel, by decide +kernel⟩
theorem ok_raised_by_numbers {f : Addr} {fd : FuncData} (F : Fun K "raised_by_numbers" "raised_by_numbers" s_raised_by_numbers f fd) (z : Zs mg) (c_lowest : Cal P w K mg base 2 "lowest" ["top", "bottom"] spLow) : FnOk P w K mg base CX0 3 f fd ["numbers", "common", "ks"] spRaisN := by
  refine F.ok sc_raised_by_numbers (fun vs H Q E h => ?_) (fun cdv A outer s H vs Q E hr h => ?_)
  · obtain ⟨a, b, ns, c, ks, rfl, _⟩ := h
    rfl
  · obtain ⟨a, b, ns, c, ks, rfl, ha, hk, c0, cb, nb, nl, kl, ksz, q⟩ := h
    refine ⟨_, (pss_cons (ps_for PassesOwn.never rfl (pi_list (pv 2)) (pg_tup (by rfl) (pgs_cons (pg_name (i := 3) sc_raised_by_numbers.nd rfl (.inr rfl)) (pgs_cons (pg_name (i := 4) sc_raised_by_numbers.nd rfl (.inr rfl)) pgs_nil))) (pss_cons (ps_set (i := 5) sc_raised_by_numbers.nd rfl (.inl rfl) (pe_lst (StX.pa_star (pv 0) (pa_cons pe_int pa_nil))))
      (pss_cons (ps_setLc (i := 0) (own := [("one", 7), ("other", 8)]) (g := gTup K 2 (gCons (gName 7) (gCons (gName 8) gNil))) (tt := tYes) (te := (tOp (rI0 fun i j => V.int (i + j)) (tOp (rI CMulW fun i j => V.int (i * j)) (tVar 4) (tVar 7)) (tOp (rI CMulW fun i j => V.int (i * j)) (tVar 3) (tVar 8)))) (by rfl) sc_raised_by_numbers.nd rfl rfl (sw_true rfl rfl rfl (by decide +kernel)) (RZ.pi_zipA (by rfl) z.zip (pa_cons (pv 5) (pa_cons (pe_revL (pv 5)) pa_nil))) (blkOk_by (own := [("one", 7), ("other", 8)]) (N := ["numbers", "common", "ks", "top", "bottom", "longer", "number", "one", "other"]) (sc := defScope s_raised_by_numbers) (by decide +kernel)) (fun _ _ _ _ _ => by exact (pg_tup (by rfl) (pgs_cons (pg_name (i := 7) sc_raised_by_numbers.nd rfl (.inl rfl)) (pgs_cons (pg_name (i := 8) sc_raised_by_numbers.nd rfl (.inl rfl)) pgs_nil)))) (fun _ _ _ _ _ => by exact pts_nil) (fun _ _ _ _ _ => by exact (pe_op op_add (pe_op op_mulW (pv 4) (pv 7)) (pe_op op_mulW (pv 3) (pv 8)))))
      (pss_one (ps_set (i := 1) sc_raised_by_numbers.nd rfl (.inr rfl) (pe_op op_mulW (pv 1) (pv 4)))))))
      (pss_one (ps_ret (pe_lc (own := [("number", 6)]) (g := gName 6) (tt := tYes) (te := (tCall spLow [] E0 (tCons (tVar 6) (tCons (tVar 1) tNil)))) (by rfl) sc_raised_by_numbers.nd (pi_list (pv 0)) (blkOk_by (own := [("number", 6)]) (N := ["numbers", "common", "ks", "top", "bottom", "longer", "number", "one", "other"]) (sc := defScope s_raised_by_numbers) (by decide +kernel)) (fun _ _ _ _ _ => by exact (pg_name (i := 6) sc_raised_by_numbers.nd rfl (.inl rfl))) (fun _ _ _ _ _ => by exact pts_nil) (fun _ _ _ _ _ => by exact (pe_cal c_lowest hr (pa_cons (pv 6) (pa_cons (pv 1) pa_nil)))))))), ?_⟩
    obtain ⟨us, hb, hul, hu⟩ := hk.len
    refine ⟨_, rfl, b, rfl, ⟨_, SqL.of hb⟩, for_list (K := K) (a := b) (xs := us) (fun i σ H' => ∃ (A : Addr) (ms : List Int) (m : Int) (y3 y4 y5 y6 y7 y8 : Option V), σ = [some (.ref A), some (.int m), some (.ref b), y3, y4, y5, y6, y7, y8] ∧ Same H H' ∧ H' A = some (.lst (ms.map V.int)) ∧ 0 < m ∧ m.natAbs < 2 ^ (2000 + 20 * i) ∧ (∀ n ∈ ms, n.natAbs < 2 ^ (5000 + 21 * i)) ∧ ms.length ≤ 10 + i ∧ rp ms m = raise (rp ns c) (ks.take i)) ⟨a, ns, c, none, none, none, none, none, none, rfl, Same.refl _, ha, c0, cb, nb, nl, rfl⟩ (fun i σ H' _ hP => ?_) (fun i x σ H' hx hP => ?_) (fun σ H' hP => ?_)⟩
    · obtain ⟨A, ms, m, y3, y4, y5, y6, y7, y8, rfl, s1, -⟩ := hP
      exact SqL.of (s1 _ _ hb)
    · obtain ⟨A, ms, m, y3, y4, y5, y6, y7, y8, rfl, s1, hA, m0, mb, mz, ml, er⟩ := hP
      obtain ⟨p, k, rfl, hki, hp⟩ := FrsAt.get hu hx
      obtain ⟨kd, kn⟩ := ksz k (List.mem_of_getElem? hki)
      have li := (List.getElem?_eq_some_iff.mp hki).1
      refine ⟨p, _, rfl, SqT.of (s1 _ _ hp), rfl, _, _, rfl, _, _, rfl, rfl, ?_⟩
      refine ⟨_, rfl, A, _, rfl, .inr (SqL.of hA), ?_, fun L hL => ?_⟩
      · rw [List.length_append, List.length_map]
        exact Nat.le_of_lt (small1000' (by show ms.length + 1 ≤ 1000; omega))
      have el : ms.map V.int ++ [V.int 0] = (ms ++ [0]).map V.int := by
        rw [List.map_append]
        rfl
      rw [el]
      have sL := same_new (o := .lst ((ms ++ [0]).map V.int)) hL
      have gL : (upd H' L (.lst ((ms ++ [0]).map V.int))) L = some (.lst ((ms ++ [0]).map V.int)) := upd_same
      generalize upd H' L (.lst ((ms ++ [0]).map V.int)) = HL at sL gL ⊢
      refine ⟨_, rfl, _, rfl, L, _, rfl, SqL.of gL, fun R hR => ?_⟩
      rw [← List.map_reverse]
      have sR := same_new (o := .lst ((ms ++ [0]).reverse.map V.int)) hR
      have gR : (upd HL R (.lst ((ms ++ [0]).reverse.map V.int))) R = some (.lst ((ms ++ [0]).reverse.map V.int)) := upd_same
      have gL2 := sR _ _ gL
      generalize upd HL R (.lst ((ms ++ [0]).reverse.map V.int)) = HR at sR gR gL2 ⊢
      refine ⟨L, R, _, _, rfl, .inl ⟨SqL.of gL2, SqL.of gR, fun D hD => ?_⟩⟩
      refine lc_it (walk_zip (K := K) (a := L) (b := R) (xs := (ms ++ [0]).map V.int) (ys := (ms ++ [0]).reverse.map V.int) rfl) (fun j G => Same HR G ∧ G D = some (.lst ((List.zipWith (fun x y => (k.den : Int) * x + k.num * y) ((ms ++ [0]).take j) ((ms ++ [0]).reverse.take j)).map V.int))) ⟨same_new hD, upd_same⟩ (fun j G _ hP => ⟨SqL.of (hP.1 _ _ gL2), SqL.of (hP.1 _ _ gR)⟩) (fun j x G G2 hj hP hY => ?_) (fun G hP => ?_)
      · obtain ⟨sG, hacc⟩ := hP
        obtain ⟨Tp, u, v, rfl, nT, rfl, e1, e2⟩ := hY
        replace e1 : ((ms ++ [0]).map V.int)[j]? = some u := e1
        replace e2 : ((ms ++ [0]).reverse.map V.int)[j]? = some v := e2
        rw [List.getElem?_map] at e1 e2
        obtain ⟨x, x1, rfl⟩ := Option.map_eq_some_iff.mp e1
        obtain ⟨y, y1, rfl⟩ := Option.map_eq_some_iff.mp e2
        have lj := (List.getElem?_eq_some_iff.mp x1).1
        rw [List.length_append, List.length_singleton] at lj
        have key : ∀ x ∈ ms ++ [0], x.natAbs < 2 ^ 6000 := fun x hx => by
          rcases List.mem_append.mp hx with h | h
          · exact Nat.lt_of_lt_of_le (mz x h) (Nat.pow_le_pow_right (by decide) (by omega))
          · rw [List.mem_singleton.mp h]
            exact Nat.two_pow_pos 6000
        have zx := key x (List.mem_of_getElem? x1)
        have zy := key y (List.mem_reverse.mp (List.mem_of_getElem? y1))
        have kd2 : ((k.den : Int)).natAbs < 2 ^ 20 := by omega
        have sN := same_new (o := .tup [.int x, .int y]) nT
        refine ⟨Tp, [.int x, .int y], rfl, SqT.of upd_same, rfl, _, _, rfl, _, _, rfl, rfl, rfl, ?_⟩
        refine ⟨_, rfl, _, rfl, _, _, rfl, rfl, wide_mul kd2 zx (by decide) (by decide) (by decide), _, rfl, _, rfl, _, _, rfl, rfl, wide_mul kn zy (by decide) (by decide) (by decide), _, _, rfl, rfl, _, sN _ _ hacc, ?_, fun b o e => ?_, ?_⟩
        · rw [List.length_map, List.length_zipWith, List.length_take, List.length_append, List.length_singleton]
          exact small1000 (by omega)
        · rw [upd_ne (ne_of_none e hD)]
          exact sN _ _ (sG _ _ e)
        · rw [upd_same, raZ_take k.num k.den _ _ j x y x1 y1, List.map_append]
          rfl
      · obtain ⟨sG, hacc⟩ := hP
        have e1 : ((ms ++ [0]).map V.int).length = (ms ++ [0]).length := List.length_map _
        have e2 : ((ms ++ [0]).reverse.map V.int).length = (ms ++ [0]).length := by rw [List.length_map, List.length_reverse]
        rw [e1, e2, Nat.min_self, List.take_length, show (ms ++ [(0 : Int)]).length = (ms ++ [0]).reverse.length from (List.length_reverse).symm, List.take_length] at hacc
        replace hacc : G D = some (.lst ((raZ k.num k.den ms).map V.int)) := hacc
        have kd2 : ((k.den : Int)).natAbs < 2 ^ 20 := by omega
        have mb2 : m.natAbs < 2 ^ 3000 := Nat.lt_of_lt_of_le mb (Nat.pow_le_pow_right (by decide) (by omega))
        refine ⟨_, rfl, _, rfl, _, _, rfl, rfl, wide_mul mb2 kd2 (by decide) (by decide) (by decide), ?_⟩
        refine ⟨D, raZ k.num k.den ms, m * (k.den : Int), _, _, _, _, _, _, rfl, ((s1.trans sL).trans sR).trans sG, hacc, Int.mul_pos m0 (den_ge k), ?_, ?_, ?_, ?_⟩
        · rw [Int.natAbs_mul, show 2000 + 20 * (i + 1) = (2000 + 20 * i) + 20 by omega, Nat.pow_add]
          exact Nat.mul_lt_mul'' mb kd2
        · have := raZ_lt (t := k.num) (b := (k.den : Int)) kn kd2 mz
          rw [show 5000 + 21 * (i + 1) = 5000 + 21 * i + 21 by omega]
          exact this
        · rw [raZ_len]
          omega
        · rw [raZ_rp (by omega), er, List.take_succ, hki, Option.toList_some, raise_snoc]
    · obtain ⟨A, ms, m, y3, y4, y5, y6, y7, y8, rfl, s1, hA, m0, mb, mz, ml, er⟩ := hP
      rw [hul, List.take_length] at er
      have mb4 : m.natAbs < 2 ^ 4000 := Nat.lt_of_lt_of_le mb (Nat.pow_le_pow_right (by decide) (by omega))
      refine ⟨_, rfl, A, rfl, ⟨_, SqL.of hA⟩, fun D hD => lc_list (K := K) (a := A) (xs := ms.map V.int) (fun i G => Same H' G ∧ ∃ vs, G D = some (.lst vs) ∧ FrsAt G vs ((rp ms m).take i)) ⟨same_new hD, [], upd_same, .nil⟩ (fun i G _ hP => SqL.of (hP.1 _ _ hA)) (fun i x G hx hP => ?_) (fun G hP => ?_)⟩
      · obtain ⟨sG, vs, hvs, fvs⟩ := hP
        rw [List.getElem?_map] at hx
        obtain ⟨n, hn, rfl⟩ := Option.map_eq_some_iff.mp hx
        have li := (List.getElem?_eq_some_iff.mp hn).1
        have lv := FrsAt.len fvs
        rw [List.length_take, rp_len] at lv
        refine ⟨rfl, _, rfl, _, rfl, n, m, rfl, by omega, mb4, fun lo hlo => ?_⟩
        have slo := same_new (o := .tup [.int (lowT n m), .int (lowB n m)]) hlo
        have ne : lo ≠ D := fun e => by
          rw [e, hvs] at hlo
          cases hlo
        refine ⟨_, slo _ _ hvs, small1000 (by omega), fun b o e => ?_, vs ++ [.ref lo], upd_same, ?_⟩
        · rw [upd_ne (ne_of_none e hD)]
          exact slo _ _ (sG _ _ e)
        · have et : (rp ms m).take (i + 1) = (rp ms m).take i ++ [(n : Rat) / (m : Rat)] := by
            rw [List.take_succ]
            congr 1
            unfold rp
            rw [List.getElem?_map, hn]
            rfl
          rw [et]
          refine FrsAt.app ((PrsAt.same fvs slo).but SameBut.upd (slo _ _ hvs)) (FrsAt.one (Fr.lowR (by omega) ?_))
          rw [upd_ne ne]
          exact upd_same
      · obtain ⟨sG, vs, hvs, fvs⟩ := hP
        rw [List.length_map, show ms.length = (rp ms m).length from (rp_len _ _).symm, List.take_length, er] at fvs
        exact q D _ (s1.free hD) (s1.trans sG) ⟨vs, hvs, fvs⟩
theorem sc_raised : FnScope ["rest", "ks", "numbers", "common"] ["rest", "ks"] (defScope s_raised) := ⟨rfl, rfl, rfl, by decide +kernel, rfl, by decide +kernel, by decide +kernel⟩
theorem ok_raised {f : Addr} {fd : FuncData} (F : Fun K "raised" "raised" s_raised f fd) (c_check_series : Cal P w K mg base 4 "check_series" ["thing"] spChkS) (c_cleared : Cal P w K mg base 3 "cleared" ["pairs"] spCleared) (c_is_long : Cal P w K mg base 1 "is_long" ["common"] spLong) (c_raised_by_numbers : Cal P w K mg base 3 "raised_by_numbers" ["numbers", "common", "ks"] spRaisN) : FnOk P w K mg base CX0 5 f fd ["rest", "ks"] spRais := by
  refine F.ok sc_raised (fun vs H Q E h => ?_) (fun cdv A outer s H vs Q E hr h => ?_)
  · obtain ⟨a, b, rs, ks, D, rfl, _⟩ := h
    rfl
  · obtain ⟨a, b, rs, ks, D, rfl, hq, hk, l0, l1, l2, bt, ksz, q⟩ := h
    refine ⟨_, (pss_cons (ps_expr (pe_cal c_check_series hr (pa_cons (pv 0) pa_nil)))
      (pss_cons (ps_expr (pe_cal c_check_series hr (pa_cons (pv 1) pa_nil)))
      (pss_cons (ps_if (pt_not (pt_truth (pv 0) (by intro _; rfl))) (pss_one ps_never) pss_nil)
      (pss_cons (ps_asg (pe_cal c_cleared hr (pa_cons (pv 0) pa_nil)) (pg_tup (by rfl) (pgs_cons (pg_name (i := 2) sc_raised.nd rfl (.inl rfl)) (pgs_cons (pg_name (i := 3) sc_raised.nd rfl (.inl rfl)) pgs_nil))))
      (pss_cons (ps_if (pt_val (pe_cal c_is_long hr (pa_cons (pv 3) pa_nil))) (pss_one ps_never) pss_nil)
      (pss_one (ps_ret (pe_cal c_raised_by_numbers hr (pa_cons (pv 2) (pa_cons (pv 3) (pa_cons (pv 1) pa_nil))))))))))), ?_⟩
    refine ⟨_, rfl, a, rs, rfl, hq, by omega, fun H1 S1 => ?_⟩
    refine ⟨_, rfl, b, ks, rfl, hk.same S1, by omega, fun H2 S2 => ?_⟩
    have S := S1.trans S2
    obtain ⟨vs, ha, lv, hv⟩ := (hq.same S).len
    refine ⟨_, rfl, !vs.isEmpty, .inl ⟨vs, SqL.of ha, rfl⟩, ?_⟩
    obtain ⟨v0, vt, rfl⟩ : ∃ v0 vt, vs = v0 :: vt := by
      cases vs with
      | nil => exact absurd lv (by simp; omega)
      | cons v vt => exact ⟨v, vt, rfl⟩
    refine iteF ?_
    obtain ⟨c0, cd, cp⟩ := bt.com
    refine ⟨_, rfl, a, _, rs.map pr, D, rfl, ha, hv, bt, by rw [List.length_map]; omega, fun Tp l H3 S3 hT hl => ?_⟩
    have cl := bt.lt c0 cd
    generalize com ((rs.map pr).map (·.2)) = c at *
    refine ⟨Tp, _, rfl, SqT.of hT, rfl, _, _, rfl, _, _, rfl, rfl, ?_⟩
    refine ⟨_, rfl, c, rfl, cl, _, rfl, iteF ?_⟩
    have hd : ∀ q ∈ rs, (q.den : Int) ∣ c := fun q hq => cp (pr q) (List.mem_map.mpr ⟨q, hq, rfl⟩)
    refine ⟨_, rfl, _, rfl, _, rfl, l, b, tops c (rs.map pr), c, ks, rfl, hl, hk.same (S.trans S3), c0, cl, fun n hn => ?_, ?_, l2, ksz, fun T H4 hT0 S4 hR => q T H4 ((S.trans S3).free hT0) (S.trans (S3.trans S4)) ?_⟩
    · obtain ⟨p, hp, rfl⟩ := List.mem_map.mp hn
      obtain ⟨b0, bD, t1⟩ := bt.2.2 p hp
      have q1 : (c / p.2).natAbs < 2 ^ 2000 := by
        have h1 : 0 ≤ c / p.2 := Int.ediv_nonneg (by omega) (by omega)
        have h2 : c / p.2 ≤ c := Int.ediv_le_self _ (by omega)
        omega
      rw [Int.natAbs_mul]
      have := Nat.mul_lt_mul'' t1 q1
      rw [← Nat.pow_add] at this
      exact this
    · unfold tops
      rw [List.length_map, List.length_map]
      exact l1
    · rw [tops_rp1 c0 hd] at hR
      exact hR
end
end E1

namespace E1
open PySem PySem.Spec PyProof.Rows L2

theorem Sc.bits {D : Int} {B n : Nat} {q : Rat} (h : Sc D B q) (hD : D ≠ 0) (h1 : D.natAbs < 2 ^ n) (h2 : B < 2 ^ n) : q.num.natAbs < 2 ^ n ∧ ((q.den : Int)).natAbs < 2 ^ n := by
  have d : (q.den : Int).natAbs ∣ D.natAbs := Int.natAbs_dvd_natAbs.mpr h.den
  exact ⟨Nat.lt_of_le_of_lt (h.num hD) h2, Nat.lt_of_le_of_lt (Nat.le_of_dvd (by omega) d) h1⟩

theorem lowTP {t b : Int} (hb : 0 < b) : t / gI t b = lowT t b ∧ b / gI t b = lowB t b := by
  unfold lowT lowB
  rw [if_neg (by omega), if_neg (by omega)]
  exact ⟨rfl, rfl⟩
def spLowP : Sp := fun vs H Q _ => ∃ t b : Int, vs = [.int t, .int b] ∧ 0 < b ∧ b.natAbs < 2 ^ 8500 ∧ ∀ p, H p = none → Q (.ref p) (upd H p (.tup [.int (lowT t b), .int (lowB t b)]))
def spOne : Sp := fun vs H Q _ => ∃ (w a : Addr) (c : Int) (us : List V), vs = [.ref w, .ref a] ∧ WellAt H w c ∧ c ≤ 100000000 ∧ a ≠ w ∧ H a = some (.lst us) ∧ 0 < us.length ∧ us.length ≤ 1000 ∧ ∀ v ∈ us, ∀ H', SameBut w H H' → (∀ b, H b = none → H' b = none) → WellAt H' w (c + 1) → Q v H'
def spSumP : Sp := fun vs H Q _ => ∃ (a : Addr) (ws : List V) (ps : List (Int × Int)) (D : Int), vs = [.ref a] ∧ H a = some (.lst ws) ∧ PrsAt H ws ps ∧ D ≠ 0 ∧ D.natAbs < 2 ^ 4200 ∧ (∀ p ∈ ps, 0 < p.2 ∧ p.2 ∣ D ∧ p.1.natAbs < 2 ^ 4200) ∧ ps.length ≤ 100 ∧
  ∀ p H', H p = none → Same H H' → Fr H' p (sumR (ps.map fun p => Rat.divInt p.1 p.2)) → Q (.ref p) H'
theorem WellAt.ne {H : Hp} {a p : Addr} {c : Int} (h : WellAt H a c) (n : H p = none) : p ≠ a := fun e => by
  obtain ⟨_, _, _, z, _⟩ := h
  rw [← e, n] at z
  cases z
theorem but_free {H H' : Hp} {w p : Addr} (s : SameBut w H H') (h : H' p = none) (n : p ≠ w) : H p = none := by
  cases e : H p with
  | none => rfl
  | some o =>
    rw [s _ _ n e] at h
    cases h
theorem PrsAt.well {H H' : Hp} {w : Addr} {c : Int} {vs : List V} {ps : List (Int × Int)} (h : PrsAt H vs ps) (s : SameBut w H H') (hw : WellAt H w c) : PrsAt H' vs ps := by
  obtain ⟨_, _, _, e, _⟩ := hw
  exact h.but s e
theorem Fr.well {H H' : Hp} {w p : Addr} {c : Int} {q : Rat} (h : Fr H p q) (s : SameBut w H H') (hw : WellAt H w c) : Fr H' p q := by
  obtain ⟨_, _, _, e, _⟩ := hw
  exact s _ _ (ne_of h e (fun z => nomatch z)) h
theorem plus_div (q : Rat) {n o : Int} (ho : 0 < o) : Rat.divInt (q.num * o + n * q.den) (q.den * o) = q + Rat.divInt n o := by
  apply div_is (Int.mul_ne_zero (den_ne q) (by omega))
  have a := q_eq q
  have b := div_q (t := n) (b := o) (by omega)
  push_cast at *
  grind
theorem sum_sc {D : Int} (hD : D ≠ 0) (hl : D.natAbs < 2 ^ 4200) : ∀ ps : List (Int × Int), (∀ p ∈ ps, 0 < p.2 ∧ p.2 ∣ D ∧ p.1.natAbs < 2 ^ 4200) → Sc D (ps.length * 2 ^ 8400) (sumR (ps.map fun p => Rat.divInt p.1 p.2))
  | [], _ => .zero
  | p :: ps, h => by
    obtain ⟨p0, ⟨k, hk⟩, pl⟩ := h p List.mem_cons_self
    have i := sum_sc hD hl ps fun x hx => h x (List.mem_cons_of_mem _ hx)
    have one : Sc D (2 ^ 8400) (Rat.divInt p.1 p.2) := by
      refine ⟨p.1 * k, ?_, ?_⟩
      · have d := div_q (t := p.1) (b := p.2) (by omega)
        rw [hk]
        push_cast
        grind
      · have kl : k.natAbs ≤ D.natAbs := by
          rw [hk, Int.natAbs_mul]
          exact Nat.le_mul_of_pos_left _ (by omega)
        rw [Int.natAbs_mul]
        have : p.1.natAbs * k.natAbs ≤ 2 ^ 4200 * 2 ^ 4200 := Nat.mul_le_mul (by omega) (by omega)
        rw [← Nat.pow_add] at this
        exact this
    have := one.add i
    refine this.mono ?_
    rw [List.length_cons, Nat.add_mul, Nat.one_mul, Nat.add_comm]
    exact Nat.le_refl _
theorem place_sc {t b : Int} (ht : -3 ≤ t ∧ t ≤ 3) (hb : b = 1 ∨ b = 2 ∨ b = 3) : Sc 6 18 (Rat.divInt t b) := by
  have d := div_q (t := t) (b := b) (by omega)
  rcases hb with rfl | rfl | rfl
  · exact ⟨t * 6, by push_cast at *; grind, by omega⟩
  · exact ⟨t * 3, by push_cast at *; grind, by omega⟩
  · exact ⟨t * 2, by push_cast at *; grind, by omega⟩
section
variable {P : Program} {w : World} {K : PySem.W.Frag} {mg : Str → Option Value} {base : Heap}
theorem sc__law_cell_at : FnScope ["_law_script", "_law_k"] ["_law_script", "_law_k"] (defScope s__law_cell_at) := ⟨rfl, rfl, rfl, by decide +kernel, rfl, by decide +kernel, by decide +kernel⟩
theorem sc__law_well : FnScope ["_law_cell"] ["_law_cell"] (defScope s__law_well) := ⟨rfl, rfl, rfl, by decide +kernel, rfl, by decide +kernel, by decide +kernel⟩
theorem sc__law_draw : FnScope ["_law_well_here", "_law_many", "_law_digit", "_law_number"] ["_law_well_here", "_law_many"] (defScope s__law_draw) := ⟨rfl, rfl, rfl, by decide +kernel, rfl, by decide +kernel, by decide +kernel⟩
theorem ok_cell {f : Addr} {fd : FuncData} {k : Nat} (F : Fun K "_law_cell_at" "_law_cell_at" s__law_cell_at f fd) (zl : mg "len" = none) : FnOk P w K mg base CX0 (k + 1) f fd ["_law_script", "_law_k"] (spCell K) := by
  refine F.ok sc__law_cell_at (fun vs H Q E h => ?_) (fun cdv A outer s H vs Q E hr h => ?_)
  · obtain ⟨a, ns, k, rfl, _⟩ := h
    rfl
  · obtain ⟨a, ns, k, rfl, hS, q⟩ := h
    refine ⟨_, (pss_cons (ps_if (pt_cmpR op_lt (pv 1) (pe_callB call_len_seq (by rfl) zl PySem.boot_len (pa_cons (pv 0) pa_nil)) (nomark _)) (pss_one (ps_ret (pe_ix ix_list (pv 0) (pv 1) (fun _ _ => rfl)))) pss_nil)
      (pss_one (ps_ret pe_int))), ?_⟩
    refine ⟨_, rfl, _, rfl, a, _, rfl, .inl hS, _, _, rfl, rfl, _, rfl, ite2 (fun c => ?_) (fun c => ?_)⟩
    · have hk : k < ns.length := by
        have := toB c
        rw [List.length_map] at this
        omega
      refine ⟨_, rfl, _, rfl, a, _, k, .int (ns.getD k 0), rfl, rfl, hS, atI_nat ?_, q⟩
      rw [List.getElem?_map, List.getElem?_eq_getElem hk, List.getD_eq_getElem?_getD, List.getElem?_eq_getElem hk]
      rfl
    · have hk : ¬ k < ns.length := fun z => by
        have := toNB c
        rw [List.length_map] at this
        omega
      have e : ns.getD k 0 = 0 := by
        rw [List.getD_eq_getElem?_getD, List.getElem?_eq_none (by omega)]
        rfl
      rw [e] at q
      exact q
theorem ok_well {f : Addr} {fd : FuncData} {k : Nat} (F : Fun K "_law_well" "_law_well" s__law_well f fd) (zi : mg "int" = none) : FnOk P w K mg base CX0 (k + 1) f fd ["_law_cell"] spWell := by
  refine F.ok sc__law_well (fun vs H Q E h => ?_) (fun cdv A outer s H vs Q E hr h => ?_)
  · obtain ⟨c, rfl, _⟩ := h
    rfl
  · obtain ⟨c, rfl, q⟩ := h
    refine ⟨_, (pss_one (ps_ret (pe_lst (pa_cons (pe_op op_mul (pv 0) (pe_callTy call_int1 (by rfl) zi (by decide +kernel) (pa_cons (pe_cmpR op_ge (pv 0) (pe_op op_pow pe_int pe_int) (nomark _)) pa_nil))) (pa_cons (pe_op op_mod (pv 0) pe_int) (pa_cons pe_int pa_nil)))))), ?_⟩
    refine ⟨_, rfl, _, rfl, _, _, rfl, rfl, ⟨by decide, by decide, by decide⟩, _, _, rfl, rfl, .inr ⟨_, rfl, _, _, rfl, rfl, .inr ?_, ?_⟩⟩
    · split <;> decide
    · refine ⟨_, rfl, _, _, rfl, rfl, (by show (0 : Int) < 2147483647; decide), (by show 3 ≤ sizeLine; decide), fun p hp => ?_⟩
      exact q p hp _ (same_new hp) ⟨_, _, _, upd_same, Int.emod_nonneg _ (by decide), Int.emod_lt_of_pos _ (by decide), Int.le_refl _, Int.le_refl _⟩

theorem ok_draw {f : Addr} {fd : FuncData} {k : Nat} (F : Fun K "_law_draw" "_law_draw" s__law_draw f fd) : FnOk P w K mg base CX0 (k + 1) f fd ["_law_well_here", "_law_many"] spDraw := by
  refine F.ok sc__law_draw (fun vs H Q E h => ?_) (fun cdv A outer s H vs Q E hr h => ?_)
  · obtain ⟨a, c, m, rfl, _⟩ := h
    rfl
  · obtain ⟨a, c, m, rfl, ⟨x, y, z, hw, y0, y1, z0, z1⟩, hc, m0, m1, q⟩ := h
    have fr : ∀ o b, H b = none → (upd H a o) b = none := fun o b hb => by
      rw [upd_ne (fun e => by rw [e, hw] at hb; cases hb)]
      exact hb
    refine ⟨_, (pss_cons (ps_if (pt_cmpR op_gt (pe_ix ix_list (pv 0) pe_int (fun _ _ => rfl)) pe_int (nomark _)) (pss_cons (ps_set (i := 2) sc__law_draw.nd rfl (.inl rfl) (pe_op op_mod (pe_ix ix_list (pv 0) pe_int (fun _ _ => rfl)) (pv 1)))
      (pss_cons (ps_asg (pe_op op_fdivW (pe_ix ix_list (pv 0) pe_int (fun _ _ => rfl)) (pv 1)) (pg_sub (pv 0) pe_int set_list))
      (pss_one (ps_ret (pv 2))))) pss_nil)
      (pss_cons (ps_asg (pe_op op_add (pe_ix ix_list (pv 0) pe_int (fun _ _ => rfl)) pe_int) (pg_sub (pv 0) pe_int set_list))
      (pss_cons (ps_set (i := 3) sc__law_draw.nd rfl (.inl rfl) (pe_op op_mod (pe_op op_pow (pe_op op_add (pe_op op_add (pe_ix ix_list (pv 0) pe_int (fun _ _ => rfl)) (pe_op op_mul pe_int (pe_ix ix_list (pv 0) pe_int (fun _ _ => rfl)))) pe_int) pe_int) pe_int))
      (pss_cons (ps_set (i := 3) sc__law_draw.nd rfl (.inl rfl) (pe_op op_mod (pe_op op_mul (pv 3) (pe_op op_add (pe_op op_fdiv (pv 3) pe_int) pe_int)) pe_int))
      (pss_one (ps_ret (pe_op op_mod (pe_op op_fdiv (pe_op op_mod (pe_op op_mul (pv 3) (pe_op op_add (pe_op op_add (pe_op op_fdiv (pv 3) pe_int) pe_int) (pe_ix ix_list (pv 0) pe_int (fun _ _ => rfl)))) pe_int) pe_int) (pv 1)))))))), ?_⟩
    refine ⟨_, rfl, a, _, 0, .int x, rfl, rfl, SqL.of hw, a0, x, 0, rfl, rfl, _, rfl, ite2 (fun c => ?_) (fun c => ?_)⟩
    · refine ⟨_, rfl, a, _, 0, .int x, rfl, rfl, SqL.of hw, a0, _, rfl, x, m, rfl, rfl, m0, ?_⟩
      refine ⟨_, rfl, a, _, 0, .int x, rfl, rfl, SqL.of hw, a0, _, rfl, x, m, rfl, rfl, wide_div m0 m1 (by decide) (Nat.le_refl _), _, rfl, a, _, 0, 0, rfl, rfl, hw, rfl, ?_⟩
      refine ⟨_, rfl, q _ _ (Int.emod_nonneg _ (by omega)) (Int.emod_lt_of_pos _ m0) SameBut.upd (fr _) ⟨_, _, _, upd_same, y0, y1, z0, by omega⟩⟩
    · refine ⟨_, rfl, a, _, 2, .int z, rfl, rfl, SqL.of hw, a2, z, 1, rfl, rfl, _, rfl, a, _, 2, 2, rfl, rfl, hw, rfl, ?_⟩
      have hw2 : (upd H a (.lst [V.int x, V.int y, V.int (z + 1)])) a = some (.lst [V.int x, V.int y, V.int (z + 1)]) := upd_same
      have n5 : 0 ≤ y + 7919 * (z + 1) + 1 ∧ y + 7919 * (z + 1) + 1 < 18446744073709551616 := by omega
      refine ⟨_, rfl, a, _, 1, .int y, rfl, rfl, SqL.of hw2, a1, _, rfl, a, _, 2, .int (z + 1), rfl, rfl, SqL.of hw2, a2, _, _, rfl, rfl, .inl ⟨by decide, by decide⟩, _, _, rfl, rfl, _, _, rfl, rfl, _, _, rfl, rfl, ⟨by decide, by decide, ?_⟩, _, _, rfl, rfl, (by show (0 : Int) < 2147483629; decide), ?_⟩
      · show (y + 7919 * (z + 1) + 1).natAbs < 18446744073709551616
        omega
      · generalize hn : (y + 7919 * (z + 1) + 1) ^ (3 : Int).toNat % 2147483629 = n
        have n0 : 0 ≤ n := by rw [← hn]; exact Int.emod_nonneg _ (by decide)
        have n1 : n < 2147483629 := by rw [← hn]; exact Int.emod_lt_of_pos _ (by decide)
        refine ⟨_, rfl, _, rfl, _, _, rfl, rfl, ⟨by decide, by decide⟩, _, _, rfl, rfl, _, _, rfl, rfl, .inl ⟨by omega, by omega⟩, _, _, rfl, rfl, (by show (0 : Int) < 2147483587; decide), ?_⟩
        generalize hm : n * (n / 1009 + 69621) % 2147483587 = u
        have u0 : 0 ≤ u := by rw [← hm]; exact Int.emod_nonneg _ (by decide)
        have u1 : u < 2147483587 := by rw [← hm]; exact Int.emod_lt_of_pos _ (by decide)
        refine ⟨_, rfl, _, rfl, _, _, rfl, rfl, ⟨by decide, by decide⟩, _, _, rfl, rfl, _, rfl, a, _, 2, .int (z + 1), rfl, rfl, SqL.of hw2, a2, _, _, rfl, rfl, _, _, rfl, rfl, .inl ⟨by omega, by omega⟩, _, _, rfl, rfl, (by show (0 : Int) < 2147483579; decide), _, _, rfl, rfl, ⟨by decide, by decide⟩, _, rfl, _, _, rfl, rfl, m0, ?_⟩
        exact q _ _ (Int.emod_nonneg _ (by omega)) (Int.emod_lt_of_pos _ m0) SameBut.upd (fr _) ⟨_, _, _, upd_same, y0, y1, by omega, by omega⟩
theorem sc__law_one : FnScope ["_law_well_here", "_law_some"] ["_law_well_here", "_law_some"] (defScope s__law_one) := ⟨rfl, rfl, rfl, by decide +kernel, rfl, by decide +kernel, by decide +kernel⟩
theorem ok__law_one {f : Addr} {fd : FuncData} (F : Fun K "_law_one" "_law_one" s__law_one f fd) (z : Zs mg) (c__law_draw : Cal P w K mg base 1 "_law_draw" ["_law_well_here", "_law_many"] spDraw) : FnOk P w K mg base CX0 2 f fd ["_law_well_here", "_law_some"] spOne := by
  refine F.ok sc__law_one (fun vs H Q E h => ?_) (fun cdv A outer s H vs Q E hr h => ?_)
  · obtain ⟨w1, a, c, us, rfl, _⟩ := h
    rfl
  · obtain ⟨w1, a, c, us, rfl, hw, hc, ne, ha, l0, l1, q⟩ := h
    refine ⟨_, (pss_one (ps_ret (pe_ix ix_list (pv 1) (pe_cal c__law_draw hr (pa_cons (pv 0) (pa_cons (pe_callB call_len_seq (by rfl) z.len PySem.boot_len (pa_cons (pv 1) pa_nil)) pa_nil))) (fun _ _ => rfl)))), ?_⟩
    refine ⟨_, rfl, _, rfl, _, rfl, a, _, rfl, .inl (SqL.of ha), w1, c, _, rfl, hw, by omega, by omega, ?_, fun r H1 r0 r1 d1 f1 w2 => ?_⟩
    · exact Nat.lt_of_le_of_lt (show ((us.length : Int)).natAbs ≤ 1000 by omega) (up (show 1000 < 2 ^ 10 by decide) (by decide))
    · obtain ⟨k, rfl⟩ : ∃ k : Nat, r = k := ⟨r.toNat, by omega⟩
      have hk : k < us.length := by omega
      exact ⟨a, _, _, _, rfl, rfl, SqL.of (d1 _ _ ne ha), atI_nat (List.getElem?_eq_getElem hk), q _ (List.getElem_mem hk) H1 d1 f1 w2⟩
theorem sc__law_low : FnScope ["_law_top", "_law_bottom_here", "_law_one_here", "_law_other"] ["_law_top", "_law_bottom_here"] (defScope s__law_low) := ⟨rfl, rfl, rfl, by decide +kernel, rfl, by decide +kernel, by decide +kernel⟩
theorem ok__law_low {f : Addr} {fd : FuncData} {k : Nat} (F : Fun K "_law_low" "_law_low" s__law_low f fd) (z : Zs mg) : FnOk P w K mg base CX0 (k + 1) f fd ["_law_top", "_law_bottom_here"] spLowP := by
  refine F.ok sc__law_low (fun vs H Q E h => ?_) (fun cdv A outer s H vs Q E hr h => ?_)
  · obtain ⟨t, b, rfl, _⟩ := h
    rfl
  · obtain ⟨t, b, rfl, hb, hl, q⟩ := h
    refine ⟨_, (pss_cons (ps_par (i := 2) (j := 3) (by rfl) sc__law_low.nd rfl rfl (by decide) rfl rfl (pa_cons (pe_callB call_abs (by rfl) z.abs (by decide +kernel) (pa_cons (pv 0) pa_nil)) (pa_cons (pv 1) pa_nil)) (by rfl))
      (pss_cons (ps_while PassesOwn.never (pt_cmpR op_gt (pv 3) pe_int (nomark _)) (pss_one (ps_par (i := 2) (j := 3) (by rfl) sc__law_low.nd rfl rfl (by decide) rfl rfl (pa_cons (pv 3) (pa_cons (pe_op op_mod (pv 2) (pv 3)) pa_nil)) (by rfl))))
      (pss_one (ps_ret (pe_tup (pa_cons (pe_op op_fdivW (pv 0) (pv 2)) (pa_cons (pe_op op_fdivW (pv 1) (pv 2)) pa_nil))))))), ?_⟩
    have g0 := gI_pos (t := t) (b := b) (by omega)
    have g1 : (gI t b).natAbs < 2 ^ 8500 := Nat.lt_of_le_of_lt (gI_le (by omega)) hl
    refine ⟨_, rfl, _, rfl, _, rfl, _, _, rfl, ?_⟩
    dsimp only [gName, tSeq]
    refine while_by (fun σ H' => H' = H ∧ ∃ m n : Nat, σ = [some (.int t), some (.int b), some (.int (m : Int)), some (.int (n : Int))] ∧ Nat.gcd m n = Int.gcd t b)
      (fun σ _ => match σ with | [_, _, _, some (.int r)] => r.toNat | _ => 0) ⟨rfl, t.natAbs, b.natAbs, ?_, rfl⟩ (fun σ H1 hP => ?_) (fun σ H Q Q' m hh => ?_)
    · have e1 : (if t < 0 then -t else t) = (t.natAbs : Int) := by split <;> omega
      have e2 : b = (b.natAbs : Int) := by omega
      show [some (V.int t), some (V.int b), some (V.int (if t < 0 then -t else t)), some (V.int b)] = _
      rw [e1, ← e2]
    · obtain ⟨rfl, m, n, rfl, hg⟩ := hP
      refine ⟨_, rfl, _, _, rfl, rfl, _, rfl, ite2 (fun c => ?_) (fun c => ?_)⟩
      · have hn := toB c
        refine ⟨_, rfl, _, rfl, _, rfl, _, _, rfl, rfl, (by omega), _, _, rfl, ⟨⟨rfl, n, m % n, rfl, ?_⟩, ?_⟩⟩
        · rw [← hg, Nat.gcd_comm n (m % n), ← Nat.gcd_rec n m, Nat.gcd_comm]
        · show ((m : Int) % (n : Int)).toNat < ((n : Int)).toNat
          have := Int.emod_lt_of_pos (m : Int) (show (0 : Int) < n by omega)
          have := Int.emod_nonneg (m : Int) (show (n : Int) ≠ 0 by omega)
          omega
      · have hn := toNB c
        have e0 : n = 0 := by omega
        subst e0
        rw [Nat.gcd_zero_right] at hg
        have e2 : (m : Int) = gI t b := by
          unfold gI
          rw [hg]
        rw [e2]
        refine ⟨_, rfl, _, rfl, _, _, rfl, rfl, wide_div g0 g1 (by decide) (by decide), _, rfl, _, rfl, _, _, rfl, rfl, wide_div g0 g1 (by decide) (by decide), (by show 2 ≤ sizeLine; decide), fun p hp => ?_⟩
        have := q p hp
        rw [← (lowTP hb).1, ← (lowTP hb).2] at this
        exact this
    · obtain ⟨v, e, i, j, e1, e2, kk, ek, hq⟩ := hh
      exact ⟨v, e, i, j, e1, e2, kk, ek, m _ _ hq⟩
theorem sc__law_sum : FnScope ["_law_some", "_law_top", "_law_bottom_here", "_law_one_here", "_law_other"] ["_law_some"] (defScope s__law_sum) := ⟨rfl, rfl, rfl, by decide +kernel, rfl, by decide +kernel, by decide +kernel⟩
theorem ok__law_sum {f : Addr} {fd : FuncData} (F : Fun K "_law_sum" "_law_sum" s__law_sum f fd) (c__law_low : Cal P w K mg base 1 "_law_low" ["_law_top", "_law_bottom_here"] spLowP) : FnOk P w K mg base CX0 2 f fd ["_law_some"] spSumP := by
  refine F.ok sc__law_sum (fun vs H Q E h => ?_) (fun cdv A outer s H vs Q E hr h => ?_)
  · obtain ⟨a, ws, ps, D, rfl, _⟩ := h
    rfl
  · obtain ⟨a, ws, ps, D, rfl, ha, hp0, hD, hDl, hps, hl, q⟩ := h
    refine ⟨_, (pss_cons (ps_asg (pe_tup (pa_cons pe_int (pa_cons pe_int pa_nil))) (pg_tup (by rfl) (pgs_cons (pg_name (i := 1) sc__law_sum.nd rfl (.inl rfl)) (pgs_cons (pg_name (i := 2) sc__law_sum.nd rfl (.inl rfl)) pgs_nil))))
      (pss_cons (ps_for PassesOwn.never rfl (pi_list (pv 0)) (pg_tup (by rfl) (pgs_cons (pg_name (i := 3) sc__law_sum.nd rfl (.inl rfl)) (pgs_cons (pg_name (i := 4) sc__law_sum.nd rfl (.inl rfl)) pgs_nil))) (pss_one (ps_asg (pe_cal c__law_low hr (pa_cons (pe_op op_add (pe_op op_mulW (pv 1) (pv 4)) (pe_op op_mulW (pv 3) (pv 2))) (pa_cons (pe_op op_mulW (pv 2) (pv 4)) pa_nil))) (pg_tup (by rfl) (pgs_cons (pg_name (i := 1) sc__law_sum.nd rfl (.inl rfl)) (pgs_cons (pg_name (i := 2) sc__law_sum.nd rfl (.inl rfl)) pgs_nil))))))
      (pss_one (ps_ret (pe_tup (pa_cons (pv 1) (pa_cons (pv 2) pa_nil))))))), ?_⟩
    have hlen := hp0.len
    refine ⟨(by show 2 ≤ sizeLine; decide), fun p0 hp00 => ⟨p0, _, rfl, SqT.of upd_same, rfl, _, _, rfl, _, _, rfl, rfl, ?_⟩⟩
    have sI := same_new (o := .tup [.int 0, .int 1]) hp00
    refine ⟨_, rfl, a, rfl, ⟨_, SqL.of (sI _ _ ha)⟩, for_list (K := K) (a := a) (xs := ws) (fun i σ H' => Same H H' ∧ ∃ y3 y4 : Option V, σ = [some (.ref a), some (.int (sumR ((ps.take i).map fun p => Rat.divInt p.1 p.2)).num), some (.int ((sumR ((ps.take i).map fun p => Rat.divInt p.1 p.2)).den : Int)), y3, y4]) ⟨sI, none, none, rfl⟩ (fun i σ H' _ hP => SqL.of (hP.1 _ _ ha)) (fun i x σ H' hx hP => ?_) (fun σ H' hP => ?_)⟩
    · obtain ⟨s1, y3, y4, rfl⟩ := hP
      obtain ⟨p, n, o, rfl, hi, hm, hp⟩ := PrL_get hp0 hx
      obtain ⟨o0, oD, nl⟩ := hps _ hm
      have o0 : 0 < o := o0
      have oD : o ∣ D := oD
      have nl : n.natAbs < 2 ^ 4200 := nl
      have sc := sum_sc hD hDl (ps.take i) fun p hp => hps p (List.mem_of_mem_take hp)
      have tl : (ps.take i).length ≤ 100 := by
        rw [List.length_take]
        omega
      have sc2 := sc.mono (C := 2 ^ 8410 - 1) (by
        have h1 : (ps.take i).length * 2 ^ 8400 ≤ 100 * 2 ^ 8400 := Nat.mul_le_mul_right _ tl
        have h2 : 100 * 2 ^ 8400 ≤ 2 ^ 8410 - 1 := by
          rw [show (8410 : Nat) = 10 + 8400 by decide, Nat.pow_add]
          have : 0 < 2 ^ 8400 := Nat.pow_pos (by decide)
          omega
        omega)
      have bq := sc2.bits hD (up hDl (show 4200 ≤ 8410 by decide)) (by have : 0 < 2 ^ 8410 := Nat.pow_pos (by decide); omega)
      have od : o.natAbs < 2 ^ 4200 := Nat.lt_of_le_of_lt (Nat.le_of_dvd (by omega) (Int.natAbs_dvd_natAbs.mpr oD)) hDl
      have dd : ((sumR ((ps.take i).map fun p => Rat.divInt p.1 p.2)).den : Int).natAbs < 2 ^ 4200 := Nat.lt_of_le_of_lt (Nat.le_of_dvd (by omega) (Int.natAbs_dvd_natAbs.mpr sc.den)) hDl
      have e : sumR ((ps.take (i + 1)).map fun p => Rat.divInt p.1 p.2) = sumR ((ps.take i).map fun p => Rat.divInt p.1 p.2) + Rat.divInt n o := by
        rw [List.take_succ, hi, Option.toList_some, List.map_append, sumR_append]
        show _ + (Rat.divInt n o + 0) = _
        grind
      rw [e]
      have pd := plus_div (sumR ((ps.take i).map fun p => Rat.divInt p.1 p.2)) (n := n) o0
      generalize sumR ((ps.take i).map fun p => Rat.divInt p.1 p.2) = sq at *
      refine ⟨p, [.int n, .int o], rfl, SqT.of (s1 _ _ hp), rfl, _, _, rfl, _, _, rfl, rfl, ?_⟩
      have hne : (sq.den : Int) * o ≠ 0 := Int.mul_ne_zero (den_ne sq) (by omega)
      refine ⟨_, rfl, _, rfl, _, _, rfl, rfl, wide_mul bq.1 od (by decide) (by decide) (by decide), _, rfl, _, rfl, _, _, rfl, rfl, wide_mul nl dd (by decide) (by decide) (by decide), _, _, rfl, rfl, _, rfl, _, rfl, _, _, rfl, rfl, wide_mul dd od (by decide) (by decide) (by decide), _, _, rfl, Int.mul_pos (den_ge sq) o0, ?_, fun p2 hp2 => ?_⟩
      · show ((sq.den : Int) * o).natAbs < 2 ^ 8500
        rw [Int.natAbs_mul]
        have : (sq.den : Int).natAbs * o.natAbs < 2 ^ 4200 * 2 ^ 4200 := Nat.mul_lt_mul'' dd od
        rw [← Nat.pow_add] at this
        exact up this (by decide)
      · rw [lowT_num hne, lowB_den hne, pd]
        exact ⟨p2, _, rfl, SqT.of upd_same, rfl, _, _, rfl, _, _, rfl, rfl, s1.trans (same_new hp2), _, _, rfl⟩
    · obtain ⟨s1, y3, y4, rfl⟩ := hP
      rw [hlen, List.take_length]
      refine ⟨_, rfl, _, rfl, (by show 2 ≤ sizeLine; decide), fun p hp => ?_⟩
      exact q p _ (s1.free hp) (s1.trans (same_new hp)) upd_same
end
end E1

namespace E1
open PySem PySem.Spec PyProof.Rows L2

/-- numbers that are small enough to be raised -/
def Szs (a : List Rat) : Prop := ∀ x ∈ a, x.den < 2 ^ 1000 ∧ x.num.natAbs < 2 ^ 3000
theorem Sz.szs {a : List Rat} (h : Sz a) : Szs a := by
  obtain ⟨D, B, d0, dl, bl, hs⟩ := h
  intro x hx
  have s := hs x hx
  have d : (x.den : Int).natAbs ∣ D.natAbs := Int.natAbs_dvd_natAbs.mpr s.den
  have := Nat.le_of_dvd (by omega) d
  exact ⟨by omega, Nat.lt_of_le_of_lt (s.num d0) bl⟩
theorem one_szs : Szs [1] := fun x hx => by
  rw [List.mem_singleton.mp hx]
  exact ⟨Nat.one_lt_two_pow (by decide), Nat.one_lt_two_pow (by decide)⟩
theorem LadOk.szs {a : List Rat} (h : LadOk a) : Szs a := by
  cases h with
  | one => exact one_szs
  | out s l f n => exact s.szs
  | step s l f n r => exact s.szs
/-- all lists on the way up are small -/
theorem lad_chain {r : List Rat} (hr : Fin_ r) : ∀ (n : Nat) (ks : List Rat), ks.length = n → (∀ k ∈ ks, Ins k) → LadOk (raise r ks) → ∀ j, Szs (raise r (ks.take j)) := by
  intro n
  induction n with
  | zero =>
    intro ks hl _ lo j
    have : ks = [] := List.length_eq_zero_iff.mp hl
    subst this
    rw [List.take_nil]
    exact lo.szs
  | succ n ih =>
    intro ks hl hk lo j
    obtain ⟨t, k, rfl⟩ : ∃ t k, ks = t ++ [k] := by
      rcases List.eq_nil_or_concat ks with rfl | ⟨t, k, rfl⟩
      · cases hl
      · exact ⟨t, k, List.concat_eq_append⟩
    have lt : t.length = n := by rw [List.length_append] at hl; exact Nat.succ.inj hl
    by_cases c : j ≤ t.length
    · rw [List.take_append_of_le_length c]
      refine ih t lt (fun x hx => hk x (by simp [hx])) ?_ j
      have p := hr.pos
      have ll := raise_len r t
      have la : (raR k (raise r t)).getD ((raR k (raise r t)).length - 1) 0 = k := by
        rw [raR_len, Nat.add_sub_cancel, raR_last, raise_first _ p, hr.first, Rat.mul_one]
      rw [raise_snoc] at lo
      have := (lo.inv (by rw [raR_len]; omega)).2.2 (by rw [la]; exact hk k (by simp))
      rw [la, st_ra (hk k (by simp)).sq] at this
      exact this
    · rw [List.take_of_length_le (by rw [List.length_append, List.length_singleton]; omega)]
      exact lo.szs
theorem raise_sz {r : List Rat} {D : Int} {B : Nat} (hD : D ≠ 0) (dl : D.natAbs < 2 ^ 300) (bl : B < 2 ^ 300) (hs : ∀ x ∈ r, Sc D B x) : ∀ (n : Nat) (ks : List Rat), ks.length = n → n ≤ 8 → (∀ k ∈ ks, Sc 6 18 k) →
    ∃ (D' : Int) (B' : Nat), D' ≠ 0 ∧ D'.natAbs < 2 ^ (300 + 20 * n) ∧ B' < 2 ^ (300 + 21 * n) ∧ ∀ x ∈ raise r ks, Sc D' B' x := by
  intro n
  induction n with
  | zero =>
    intro ks hl _ _
    have : ks = [] := List.length_eq_zero_iff.mp hl
    subst this
    exact ⟨D, B, hD, dl, bl, hs⟩
  | succ n ih =>
    intro ks hl n8 hk
    obtain ⟨t, k, rfl⟩ : ∃ t k, ks = t ++ [k] := by
      rcases List.eq_nil_or_concat ks with rfl | ⟨t, k, rfl⟩
      · cases hl
      · exact ⟨t, k, List.concat_eq_append⟩
    obtain ⟨D1, B1, d1, dl1, bl1, hs1⟩ := ih t (by rw [List.length_append] at hl; exact Nat.succ.inj hl) (by omega) fun x hx => hk x (by simp [hx])
    have sk := hk k (by simp)
    refine ⟨D1 * 6, B1 * 6 + 18 * B1, Int.mul_ne_zero d1 (by decide), ?_, ?_, fun z hz => ?_⟩
    · rw [Int.natAbs_mul, show 300 + 20 * (n + 1) = (300 + 20 * n) + 20 by omega, Nat.pow_add]
      exact Nat.mul_lt_mul'' dl1 (by decide)
    · rw [show 300 + 21 * (n + 1) = (300 + 21 * n) + 21 by omega, Nat.pow_add]
      have e : B1 * 6 + 18 * B1 = B1 * 24 := by omega
      rw [e]
      exact Nat.mul_lt_mul'' bl1 (by decide)
    · rw [raise_snoc] at hz
      obtain ⟨x, hx, y, hy, rfl⟩ := raR_mem hz
      have g : ∀ x, (x ∈ raise r t ∨ x = 0) → Sc D1 B1 x := fun x hx => by
        rcases hx with hx | rfl
        · exact hs1 x hx
        · exact .zero
      have a := (g x hx).scale (k := 6)
      have b := sk.mul (g y hy)
      rw [Int.mul_comm 6 D1] at b
      exact a.add b
theorem raise_szs {r : List Rat} {D : Int} {B : Nat} (hD : D ≠ 0) (dl : D.natAbs < 2 ^ 300) (bl : B < 2 ^ 300) (hs : ∀ x ∈ r, Sc D B x) (ks : List Rat) (l : ks.length ≤ 8) (hk : ∀ k ∈ ks, Sc 6 18 k) (j : Nat) : Szs (raise r (ks.take j)) := by
  obtain ⟨D', B', d0, d1, b1, h⟩ := raise_sz hD dl bl hs _ (ks.take j) rfl (by rw [List.length_take]; omega) fun k hx => hk k (List.mem_of_mem_take hx)
  have lt : (ks.take j).length ≤ 8 := by
    rw [List.length_take]
    omega
  exact Sz.szs ⟨D', B', d0, Nat.lt_of_lt_of_le d1 (Nat.pow_le_pow_right (by decide) (by omega)), Nat.lt_of_lt_of_le b1 (Nat.pow_le_pow_right (by decide) (by omega)), h⟩
/-- a place: of one figure, or of nine -/
def spPlace : Sp := fun vs H Q _ => ∃ (w : Addr) (c kd : Int), vs = [.ref w, .int kd] ∧ WellAt H w c ∧ c ≤ 10000000 ∧ ∀ p (t b : Int) H', H p = none → SameBut w H H' → WellAt H' w (c + 2) → Fr H' p (Rat.divInt t b) → 1 ≤ b → b ≤ 99 → t.natAbs ≤ 1000000000 → (kd = 0 → Sc 6 18 (Rat.divInt t b)) → Q (.ref p) H'
def spRung : Sp := fun vs H Q _ => ∃ (w : Addr) (c : Int), vs = [.ref w] ∧ WellAt H w c ∧ c ≤ 10000000 ∧ ∀ p q H', H p = none → SameBut w H H' → WellAt H' w (c + 10) → Fr H' p q → Rg q → Q (.ref p) H'
section
variable {P : Program} {w : World} {K : PySem.W.Frag} {mg : Str → Option Value} {base : Heap}
theorem sc__law_place : FnScope ["_law_well_here", "_law_kind"] ["_law_well_here", "_law_kind"] (defScope s__law_place) := ⟨rfl, rfl, rfl, by decide +kernel, rfl, by decide +kernel, by decide +kernel⟩
theorem ok__law_place {f : Addr} {fd : FuncData} (F : Fun K "_law_place" "_law_place" s__law_place f fd) (c__law_draw : Cal P w K mg base 1 "_law_draw" ["_law_well_here", "_law_many"] spDraw) (c__law_low : Cal P w K mg base 1 "_law_low" ["_law_top", "_law_bottom_here"] spLowP) : FnOk P w K mg base CX0 2 f fd ["_law_well_here", "_law_kind"] spPlace := by
  refine F.ok sc__law_place (fun vs H Q E h => ?_) (fun cdv A outer s H vs Q E hr h => ?_)
  · obtain ⟨ww, c, kd, rfl, _⟩ := h
    rfl
  · obtain ⟨ww, c, kd, rfl, hw, hc, q⟩ := h
    refine ⟨_, (pss_cons (ps_if (pt_cmpR op_eq (pv 1) pe_int (nomark _)) (pss_one (ps_ret (pe_cal c__law_low hr (pa_cons (pe_op op_sub (pe_cal c__law_draw hr (pa_cons (pv 0) (pa_cons pe_int pa_nil))) pe_int) (pa_cons (pe_op op_add pe_int (pe_cal c__law_draw hr (pa_cons (pv 0) (pa_cons pe_int pa_nil)))) pa_nil))))) pss_nil)
      (pss_one (ps_ret (pe_cal c__law_low hr (pa_cons (pe_op op_add (pe_op op_sub (pe_cal c__law_draw hr (pa_cons (pv 0) (pa_cons (pe_op op_sub (pe_op op_mul pe_int (pe_op op_pow pe_int pe_int)) pe_int) pa_nil))) (pe_op op_pow pe_int pe_int)) pe_int) (pa_cons (pe_op op_add pe_int (pe_cal c__law_draw hr (pa_cons (pv 0) (pa_cons pe_int pa_nil)))) pa_nil)))))), ?_⟩
    refine ⟨_, rfl, rfl, _, rfl, ite2 (fun cc => ?_) (fun cc => ?_)⟩
    · refine ⟨_, rfl, ww, c, 7, rfl, hw, by omega, by decide, by decide, fun r1 H1 r10 r11 d1 f1 w1 => ⟨_, _, rfl, rfl, _, rfl, ww, c + 1, 3, rfl, w1, by omega, by decide, by decide, fun r2 H2 r20 r21 d2 f2 w2 => ⟨_, _, rfl, rfl, _, _, rfl, by omega, Nat.lt_of_le_of_lt (show _ ≤ 100 by omega) (by decide), fun p hp => ?_⟩⟩⟩
      have n := w2.ne hp
      have dd := d1.trans d2
      refine q p _ _ _ (but_free dd hp n) (dd.trans (SameBut.of (same_new hp))) ((w2.same (same_new hp)).mono (by omega)) (Fr.low (by omega) rfl upd_same) (by omega) (by omega) (by omega) (fun _ => place_sc (by omega) (by omega))
    · have e9 : (10 : Int) ^ (9 : Int).toNat = 1000000000 := by decide
      refine ⟨_, rfl, _, _, rfl, rfl, ⟨by decide, by decide, by decide⟩, _, _, rfl, rfl, .inl ⟨by decide, by decide⟩, _, _, rfl, rfl, ww, c, _, rfl, hw, by omega, by decide, by decide, fun r1 H1 r10 r11 d1 f1 w1 => ⟨_, _, rfl, rfl, ⟨by decide, by decide, by decide⟩, _, _, rfl, rfl, _, _, rfl, rfl, _, rfl, ww, c + 1, 99, rfl, w1, by omega, by decide, by decide, fun r2 H2 r20 r21 d2 f2 w2 => ⟨_, _, rfl, rfl, _, _, rfl, by omega, Nat.lt_of_le_of_lt (show _ ≤ 100 by omega) (by decide), fun p hp => ?_⟩⟩⟩
      rw [e9] at r11
      have kz : kd ≠ 0 := fun z => cc (decide_eq_true (by rw [z]))
      have n := w2.ne hp
      have dd := d1.trans d2
      refine q p _ _ _ (but_free dd hp n) (dd.trans (SameBut.of (same_new hp))) ((w2.same (same_new hp)).mono (by omega)) (Fr.low (by omega) rfl upd_same) (by omega) (by omega) (by omega) (fun z => absurd z kz)
theorem sc__law_rung : FnScope ["_law_well_here", "_law_bottom_here", "_law_top"] ["_law_well_here"] (defScope s__law_rung) := ⟨rfl, rfl, rfl, by decide +kernel, rfl, by decide +kernel, by decide +kernel⟩
theorem ok__law_rung {f : Addr} {fd : FuncData} (F : Fun K "_law_rung" "_law_rung" s__law_rung f fd) (c__law_draw : Cal P w K mg base 1 "_law_draw" ["_law_well_here", "_law_many"] spDraw) (c__law_low : Cal P w K mg base 1 "_law_low" ["_law_top", "_law_bottom_here"] spLowP) (c__law_one : Cal P w K mg base 2 "_law_one" ["_law_well_here", "_law_some"] spOne) : FnOk P w K mg base CX0 3 f fd ["_law_well_here"] spRung := by
  refine F.ok sc__law_rung (fun vs H Q E h => ?_) (fun cdv A outer s H vs Q E hr h => ?_)
  · obtain ⟨ww, c, rfl, _⟩ := h
    rfl
  · obtain ⟨ww, c, rfl, hw, hc, q⟩ := h
    refine ⟨_, (pss_cons (ps_set (i := 1) sc__law_rung.nd rfl (.inl rfl) (pe_cal c__law_one hr (pa_cons (pv 0) (pa_cons (pe_lst (pa_cons pe_int (pa_cons pe_int (pa_cons pe_int (pa_cons (pe_op op_add pe_int (pe_cal c__law_draw hr (pa_cons (pv 0) (pa_cons pe_int pa_nil)))) (pa_cons (pe_op op_pow pe_int pe_int) pa_nil)))))) pa_nil))))
      (pss_cons (ps_set (i := 2) sc__law_rung.nd rfl (.inl rfl) (pe_cal c__law_one hr (pa_cons (pv 0) (pa_cons (pe_lst (pa_cons (pe_op op_sub (pv 1) pe_int) (pa_cons (pe_cal c__law_draw hr (pa_cons (pv 0) (pa_cons (pv 1) pa_nil))) (pa_cons (pe_cal c__law_draw hr (pa_cons (pv 0) (pa_cons (pv 1) pa_nil))) (pa_cons pe_int pa_nil))))) pa_nil))))
      (pss_one (ps_ret (pe_cal c__law_low hr (pa_cons (pe_op op_mul (pv 2) (pe_cal c__law_one hr (pa_cons (pv 0) (pa_cons (pe_lst (pa_cons pe_int (pa_cons (pe_un un_neg pe_int) pa_nil))) pa_nil)))) (pa_cons (pv 1) pa_nil))))))), ?_⟩
    refine ⟨_, rfl, _, rfl, ww, c, 30, rfl, hw, by omega, by decide, by decide, fun r1 H1 r10 r11 d1 f1 w1 => ⟨_, _, rfl, rfl, _, _, rfl, rfl, ⟨by decide, by decide, by decide⟩, (by show 5 ≤ sizeLine; decide), fun l1 hl1 => ?_⟩⟩
    refine ⟨ww, l1, c + 1, _, rfl, w1.same (same_new hl1), by omega, w1.ne hl1, upd_same, by show 0 < 5; decide, by show 5 ≤ 1000; decide, fun v hv H2 d2 f2 w2 => ?_⟩
    obtain ⟨b, rfl, b1, b2⟩ : ∃ b : Int, v = .int b ∧ 1 ≤ b ∧ b ≤ 1000000 := by
      simp only [List.mem_cons, List.not_mem_nil, or_false] at hv
      rcases hv with rfl | rfl | rfl | rfl | rfl
      · exact ⟨_, rfl, by decide, by decide⟩
      · exact ⟨_, rfl, by decide, by decide⟩
      · exact ⟨_, rfl, by decide, by decide⟩
      · exact ⟨_, rfl, by omega, by omega⟩
      · exact ⟨_, rfl, by decide, by decide⟩
    have sb : b.natAbs < 2 ^ 9000 := Nat.lt_of_le_of_lt (show _ ≤ 1000000 by omega) (Nat.lt_of_lt_of_le (show 1000000 < 2 ^ 20 by decide) (Nat.pow_le_pow_right (by decide) (by decide)))
    have s1 : SameBut ww H H2 := d1.trans ((SameBut.of (same_new hl1)).trans d2)
    refine ⟨_, rfl, _, rfl, _, _, rfl, rfl, _, rfl, _, rfl, ww, _, b, rfl, w2, by omega, by omega, sb, fun r3 H3 r30 r31 d3 f3 w3 => ⟨_, rfl, _, rfl, ww, _, b, rfl, w3, by omega, by omega, sb, fun r4 H4 r40 r41 d4 f4 w4 => ⟨(by show 4 ≤ sizeLine; decide), fun l2 hl2 => ?_⟩⟩⟩
    refine ⟨ww, l2, _, _, rfl, w4.same (same_new hl2), by omega, w4.ne hl2, upd_same, by show 0 < 4; decide, by show 4 ≤ 1000; decide, fun v hv H5 d5 f5 w5 => ?_⟩
    obtain ⟨t, rfl, t1, t2⟩ : ∃ t : Int, v = .int t ∧ 0 ≤ t ∧ t < b := by
      simp only [List.mem_cons, List.not_mem_nil, or_false] at hv
      rcases hv with rfl | rfl | rfl | rfl
      · exact ⟨_, rfl, by omega, by omega⟩
      · exact ⟨_, rfl, by omega, by omega⟩
      · exact ⟨_, rfl, by omega, by omega⟩
      · exact ⟨_, rfl, by omega, by omega⟩
    have s2 : SameBut ww H H5 := s1.trans (d3.trans (d4.trans ((SameBut.of (same_new hl2)).trans d5)))
    refine ⟨_, rfl, _, rfl, _, rfl, (by show 2 ≤ sizeLine; decide), fun l3 hl3 => ?_⟩
    refine ⟨ww, l3, _, _, rfl, w5.same (same_new hl3), by omega, w5.ne hl3, upd_same, by decide, by show 2 ≤ 1000; decide, fun v hv H6 d6 f6 w6 => ?_⟩
    obtain ⟨g, rfl, g1⟩ : ∃ g : Int, v = .int g ∧ (g = 1 ∨ g = -1) := by
      simp only [List.mem_cons, List.not_mem_nil, or_false] at hv
      rcases hv with rfl | rfl
      · exact ⟨_, rfl, .inl rfl⟩
      · exact ⟨_, rfl, .inr rfl⟩
    have s3 : SameBut ww H H6 := s2.trans ((SameBut.of (same_new hl3)).trans d6)
    have tg : -b < t * g ∧ t * g < b := by
      rcases g1 with rfl | rfl <;> omega
    refine ⟨_, _, rfl, rfl, .inl ⟨by omega, by omega⟩, _, rfl, _, _, rfl, by omega, Nat.lt_of_le_of_lt (show _ ≤ 1000000 by omega) (Nat.lt_of_lt_of_le (show 1000000 < 2 ^ 20 by decide) (Nat.pow_le_pow_right (by decide) (by decide))), fun p hp => ?_⟩
    have n := w6.ne hp
    refine q p _ _ (but_free s3 hp n) (s3.trans (SameBut.of (same_new hp))) ((w6.same (same_new hp)).mono (by omega)) (Fr.low (by omega) rfl upd_same) ⟨?_, b, by omega, Nat.lt_of_le_of_lt (show _ ≤ 1000000 by omega) (by decide), t * g, ?_, by omega⟩
    · have e : Rat.divInt (t * g) b = ((t * g : Int) : Rat) / (b : Rat) := by
        apply div_is (by omega)
        rw [Rat.div_def, Rat.mul_assoc, Rat.inv_mul_cancel _ (cast_ne (by omega)), Rat.mul_one]
      rw [e]
      exact (ins_iff (by omega)).mpr tg
    · exact div_q (by omega)
end
end E1

namespace E1
open PySem PySem.Spec PyProof.Rows L2

theorem PrsAt.rev {H : Hp} {vs : List V} {ps : List (Int × Int)} (h : PrsAt H vs ps) : PrsAt H vs.reverse ps.reverse := by
  induction h with
  | nil => exact .nil
  | cons e _ ih =>
    rw [List.reverse_cons, List.reverse_cons]
    exact ih.app (.cons e .nil)
theorem FrsAt.rev {H : Hp} {vs : List V} {qs : List Rat} (h : FrsAt H vs qs) : FrsAt H vs.reverse qs.reverse := by
  show PrsAt H vs.reverse (qs.reverse.map pr)
  rw [List.map_reverse]
  exact PrsAt.rev h
theorem zipR_take (k : Rat) (xs ys : List Rat) (i : Nat) (x y : Rat) (hx : xs[i]? = some x) (hy : ys[i]? = some y) : List.zipWith (fun x y => x + k * y) (xs.take (i + 1)) (ys.take (i + 1)) = List.zipWith (fun x y => x + k * y) (xs.take i) (ys.take i) ++ [x + k * y] := by
  have lx := (List.getElem?_eq_some_iff.mp hx).1
  have ly := (List.getElem?_eq_some_iff.mp hy).1
  rw [List.take_succ, List.take_succ, hx, hy, Option.toList_some, Option.toList_some, List.zipWith_append (by rw [List.length_take, List.length_take]; omega)]
  rfl
theorem sum_two (x k y : Rat) : sumR ([(x.num, (x.den : Int)), (k.num * y.num, (k.den : Int) * (y.den : Int))].map fun p => Rat.divInt p.1 p.2) = x + k * y := by
  show Rat.divInt x.num x.den + (Rat.divInt (k.num * y.num) (k.den * y.den) + 0) = _
  rw [times_q, div_is (den_ne x) (q_eq x)]
  grind
def Ks (k : Rat) : Prop := k.den < 2 ^ 1000 ∧ k.num.natAbs < 2 ^ 1000
theorem Ins.num {k : Rat} (h : Ins k) : k.num.natAbs < k.den := by
  have e := q_eq k
  have d0 : (0 : Rat) < ((k.den : Int) : Rat) := by exact_mod_cast den_ge k
  obtain ⟨h1, h2⟩ := h
  have a1 : (k + 1) * ((k.den : Int) : Rat) > 0 := Rat.mul_pos (by grind) d0
  have a2 : (1 - k) * ((k.den : Int) : Rat) > 0 := Rat.mul_pos (by grind) d0
  have b1 : -((k.den : Int) : Rat) < (k.num : Rat) := by grind
  have b2 : (k.num : Rat) < ((k.den : Int) : Rat) := by grind
  have c1 : -(k.den : Int) < k.num := by exact_mod_cast b1
  have c2 : k.num < (k.den : Int) := by exact_mod_cast b2
  omega
def spLRais : Sp := fun vs H Q _ => ∃ (a b : Addr) (rs ks : List Rat), vs = [.ref a, .ref b] ∧ FrL H a rs ∧ FrL H b ks ∧ rs.length ≤ 20 ∧ ks.length ≤ 25 ∧ (∀ k ∈ ks, Ks k) ∧ (∀ j, Szs (raise rs (ks.take j))) ∧ ∀ p H', H p = none → Same H H' → FrL H' p (raise rs ks) → Q (.ref p) H'
def spByF : Sp := fun vs H Q _ => ∃ (a : Addr) (qs : List Rat), vs = [.ref a] ∧ FrL H a qs ∧ 0 < qs.length ∧ qs.length ≤ 20 ∧ fn qs 0 ≠ 0 ∧ (∀ q ∈ qs, q.den < 2 ^ 2000 ∧ q.num.natAbs < 2 ^ 2000) ∧ ∀ p H', H p = none → Same H H' → FrL H' p (qs.map fun q => q / fn qs 0) → Q (.ref p) H'
def spLeft : Sp := fun vs H Q _ => ∃ (w : Addr) (c : Int), vs = [.ref w] ∧ WellAt H w c ∧ c ≤ 1000000 ∧ ∀ p r H', H p = none → SameBut w H H' → WellAt H' w (c + 50) → FrL H' p r → Fin_ r → 2 ≤ r.length → r.length ≤ 4 → (∀ x ∈ r, Sc 6000000 100000000 x) → Q (.ref p) H'
section
variable {P : Program} {w : World} {K : PySem.W.Frag} {mg : Str → Option Value} {base : Heap}
theorem sc__law_raised : FnScope ["_law_rest", "_law_ks", "_law_found", "_law_k", "_law_ahead", "_law_swung", "_law_a", "_law_b"] ["_law_rest", "_law_ks"] (defScope s__law_raised) := ⟨rfl, rfl, rfl, by decide +kernel, rfl, by decide +kernel, by decide +kernel⟩
theorem ok__law_raised {f : Addr} {fd : FuncData} (F : Fun K "_law_raised" "_law_raised" s__law_raised f fd) (z : Zs mg) (c__law_sum : Cal P w K mg base 2 "_law_sum" ["_law_some"] spSumP) : FnOk P w K mg base CX0 3 f fd ["_law_rest", "_law_ks"] spLRais := by
  refine F.ok sc__law_raised (fun vs H Q E h => ?_) (fun cdv A outer s H vs Q E hr h => ?_)
  · obtain ⟨a, b, rs, ks, rfl, _⟩ := h
    rfl
  · obtain ⟨a, b, rs, ks, rfl, ha, hb, rl, kl, kz, cz, q⟩ := h
    refine ⟨_, (pss_cons (ps_set (i := 2) sc__law_raised.nd rfl (.inl rfl) (pe_callTy call_list_of (by rfl) z.list (by decide +kernel) (pa_cons (pv 0) pa_nil)))
      (pss_cons (ps_for PassesOwn.never rfl (pi_list (pv 1)) (pg_name (i := 3) sc__law_raised.nd rfl (.inr rfl)) (pss_cons (ps_set (i := 4) sc__law_raised.nd rfl (.inl rfl) (pe_op op_cat (pv 2) (pe_lst (pa_cons (pe_tup (pa_cons pe_int (pa_cons pe_int pa_nil))) pa_nil))))
      (pss_cons (ps_set (i := 5) sc__law_raised.nd rfl (.inl rfl) (pe_revL (pv 4)))
      (pss_one (ps_setLc (i := 2) (own := [("_law_a", 6), ("_law_b", 7)]) (g := gTup K 2 (gCons (gName 6) (gCons (gName 7) gNil))) (tt := tYes) (te := (tCall spSumP [] E0 (tCons (tLst (tCons (tVar 6) (tCons (tTup (tCons (tOp (rI CMulW fun i j => V.int (i * j)) (tOp (rIxT K) (tVar 3) (tC (.int 0))) (tOp (rIxT K) (tVar 7) (tC (.int 0)))) (tCons (tOp (rI CMulW fun i j => V.int (i * j)) (tOp (rIxT K) (tVar 3) (tC (.int 1))) (tOp (rIxT K) (tVar 7) (tC (.int 1)))) tNil))) tNil))) tNil))) (by rfl) sc__law_raised.nd rfl rfl (sw_true rfl rfl rfl (by decide +kernel)) (RZ.pi_zipA (by rfl) z.zip (pa_cons (pv 4) (pa_cons (pv 5) pa_nil))) (blkOk_by (own := [("_law_a", 6), ("_law_b", 7)]) (N := ["_law_rest", "_law_ks", "_law_found", "_law_k", "_law_ahead", "_law_swung", "_law_a", "_law_b"]) (sc := defScope s__law_raised) (by decide +kernel)) (fun _ _ _ _ _ => by exact (pg_tup (by rfl) (pgs_cons (pg_name (i := 6) sc__law_raised.nd rfl (.inl rfl)) (pgs_cons (pg_name (i := 7) sc__law_raised.nd rfl (.inl rfl)) pgs_nil)))) (fun _ _ _ _ _ => by exact pts_nil) (fun _ _ _ _ _ => by exact (pe_cal c__law_sum hr (pa_cons (pe_lst (pa_cons (pv 6) (pa_cons (pe_tup (pa_cons (pe_op op_mulW (pe_ix ix_tup (pv 3) pe_int (fun _ _ => rfl)) (pe_ix ix_tup (pv 7) pe_int (fun _ _ => rfl))) (pa_cons (pe_op op_mulW (pe_ix ix_tup (pv 3) pe_int (fun _ _ => rfl)) (pe_ix ix_tup (pv 7) pe_int (fun _ _ => rfl))) pa_nil))) pa_nil))) pa_nil))))))))
      (pss_one (ps_ret (pv 2))))), ?_⟩
    obtain ⟨vs, ea, lv, hv⟩ := ha.len
    obtain ⟨us, eb, lu, hu⟩ := hb.len
    refine ⟨_, rfl, a, vs, rfl, .inl (SqL.of ea), fun F0 hF0 => ?_⟩
    have sF := same_new (o := .lst vs) hF0
    refine ⟨_, rfl, b, rfl, ⟨_, SqL.of (sF _ _ eb)⟩, for_list (K := K) (a := b) (xs := us) (fun i σ H' => ∃ (F : Addr) (y3 y4 y5 y6 y7 : Option V), σ = [some (.ref a), some (.ref b), some (.ref F), y3, y4, y5, y6, y7] ∧ Same H H' ∧ H F = none ∧ FrL H' F (raise rs (ks.take i))) ⟨F0, none, none, none, none, none, rfl, sF, hF0, vs, upd_same, PrsAt.same hv sF⟩ (fun i σ H' _ hP => ?_) (fun i x σ H' hx hP => ?_) (fun σ H' hP => ?_)⟩
    · obtain ⟨F, y3, y4, y5, y6, y7, rfl, s1, -⟩ := hP
      exact SqL.of (s1 _ _ eb)
    · obtain ⟨F, y3, y4, y5, y6, y7, rfl, s1, fF, hF⟩ := hP
      obtain ⟨kp, k, rfl, hki, hkp⟩ := FrsAt.get hu hx
      obtain ⟨kd, kn⟩ := kz k (List.mem_of_getElem? hki)
      have li := (List.getElem?_eq_some_iff.mp hki).1
      have cur := cz i
      have cl : (raise rs (ks.take i)).length ≤ 45 := by
        rw [raise_len, List.length_take]
        omega
      have tk : raise rs (ks.take (i + 1)) = raR k (raise rs (ks.take i)) := by
        rw [List.take_succ, hki, Option.toList_some, raise_snoc]
      rw [tk]
      generalize raise rs (ks.take i) = cq at *
      obtain ⟨fs, ef, lf, hf⟩ := hF.len
      refine ⟨_, rfl, (by show 2 ≤ sizeLine; decide), fun z hz => ?_⟩
      have sz := same_new (o := .tup [.int 0, .int 1]) hz
      have gz : Fr (upd H' z (.tup [.int 0, .int 1])) z 0 := upd_same
      generalize upd H' z (.tup [.int 0, .int 1]) = G1 at sz gz ⊢
      refine ⟨(by show 1 ≤ sizeLine; decide), fun l1 hl1 => ?_⟩
      have sl1 := same_new (o := .lst [.ref z]) hl1
      have gl1 : (upd G1 l1 (.lst [.ref z])) l1 = some (.lst [.ref z]) := upd_same
      generalize upd G1 l1 (.lst [.ref z]) = G2 at sl1 gl1 ⊢
      have s12 := sz.trans sl1
      refine ⟨F, l1, _, _, rfl, rfl, s12 _ _ ef, gl1, ?_, fun A hA => ?_⟩
      · show fs.length + 1 ≤ sizeLine
        exact Nat.le_of_lt (small1000' (by omega))
      have hf0 : FrsAt G2 (fs ++ [V.ref z]) (cq ++ [0]) := FrsAt.app (PrsAt.same hf s12) (FrsAt.one (gz.same sl1))
      have sA := same_new (o := .lst (fs ++ [V.ref z])) hA
      have gA : (upd G2 A (.lst (fs ++ [V.ref z]))) A = some (.lst (fs ++ [V.ref z])) := upd_same
      generalize upd G2 A (.lst (fs ++ [V.ref z])) = G3 at sA gA ⊢
      refine ⟨_, rfl, A, _, rfl, SqL.of gA, fun R hR => ?_⟩
      have sR := same_new (o := .lst (fs ++ [V.ref z]).reverse) hR
      have gR : (upd G3 R (.lst (fs ++ [V.ref z]).reverse)) R = some (.lst (fs ++ [V.ref z]).reverse) := upd_same
      generalize upd G3 R (.lst (fs ++ [V.ref z]).reverse) = G4 at sR gR ⊢
      have s34 := sA.trans sR
      have gA4 := sR _ _ gA
      have h4 : FrsAt G4 (fs ++ [V.ref z]) (cq ++ [0]) := PrsAt.same hf0 s34
      have h4r := FrsAt.rev h4
      have S4 : Same H G4 := s1.trans (s12.trans s34)
      have ll : (fs ++ [V.ref z]).length = (cq ++ [(0 : Rat)]).length := FrsAt.len hf0
      have lc : (cq ++ [(0 : Rat)]).length ≤ 46 := by
        rw [List.length_append]
        show cq.length + 1 ≤ 46
        omega
      have szs0 : ∀ x ∈ cq ++ [(0 : Rat)], x.den < 2 ^ 1000 ∧ x.num.natAbs < 2 ^ 3000 := fun x hx => by
        rcases List.mem_append.mp hx with h | h
        · exact cur x h
        · rw [List.mem_singleton.mp h]
          exact ⟨Nat.one_lt_two_pow (by decide), Nat.two_pow_pos 3000⟩
      refine ⟨_, rfl, _, rfl, A, R, _, _, rfl, .inl ⟨SqL.of gA4, SqL.of gR, fun D hD => ?_⟩⟩
      refine lc_it (walk_zip (K := K) (a := A) (b := R) (xs := fs ++ [V.ref z]) (ys := (fs ++ [V.ref z]).reverse) rfl) (fun j G => Same G4 G ∧ ∃ ws, G D = some (.lst ws) ∧ FrsAt G ws (List.zipWith (fun x y => x + k * y) ((cq ++ [0]).take j) ((cq ++ [0]).reverse.take j))) ⟨same_new hD, [], upd_same, .nil⟩ (fun j G _ hP => ⟨SqL.of (hP.1 _ _ gA4), SqL.of (hP.1 _ _ gR)⟩) (fun j x G G5 hj hP hY => ?_) (fun G hP => ?_)
      · obtain ⟨sG, ws, hws, fws⟩ := hP
        obtain ⟨Tp, u, v, rfl, nT, rfl, e1, e2⟩ := hY
        obtain ⟨p, x, rfl, hqx, hp⟩ := FrsAt.get h4 e1
        obtain ⟨r, y, rfl, hqy, hr'⟩ := FrsAt.get h4r e2
        have lj := (List.getElem?_eq_some_iff.mp hqx).1
        have sx := szs0 x (List.mem_of_getElem? hqx)
        have sy := szs0 y (List.mem_reverse.mp (List.mem_of_getElem? hqy))
        have sN := same_new (o := .tup [.ref p, .ref r]) nT
        have S5 := sG.trans sN
        have hp5 := S5 _ _ hp
        have hr5 := S5 _ _ hr'
        have hk5 := (S4.trans S5) _ _ hkp
        have dd : ∀ {q : Rat} {e : Nat}, q.den < 2 ^ e → ((q.den : Int)).natAbs < 2 ^ e := fun h => by omega
        refine ⟨Tp, [.ref p, .ref r], rfl, SqT.of upd_same, rfl, _, _, rfl, _, _, rfl, rfl, rfl, ?_⟩
        refine ⟨_, rfl, _, rfl, kp, _, 0, .int k.num, rfl, rfl, SqT.of hk5, a0, _, rfl, r, _, 0, .int y.num, rfl, rfl, SqT.of hr5, a0, _, _, rfl, rfl, wide_mul kn sy.2 (by decide) (by decide) (by decide), _, rfl, kp, _, 1, .int k.den, rfl, rfl, SqT.of hk5, a1, _, rfl, r, _, 1, .int y.den, rfl, rfl, SqT.of hr5, a1, _, _, rfl, rfl, wide_mul (dd kd) (dd sy.1) (by decide) (by decide) (by decide), (by show 2 ≤ sizeLine; decide), fun t ht => ?_⟩
        have st := same_new (o := .tup [.int (k.num * y.num), .int ((k.den : Int) * (y.den : Int))]) ht
        have gt : (upd (upd G Tp (.tup [.ref p, .ref r])) t (.tup [.int (k.num * y.num), .int ((k.den : Int) * (y.den : Int))])) t = some (.tup [.int (k.num * y.num), .int ((k.den : Int) * (y.den : Int))]) := upd_same
        generalize upd (upd G Tp (.tup [.ref p, .ref r])) t (.tup [.int (k.num * y.num), .int ((k.den : Int) * (y.den : Int))]) = G6 at st gt ⊢
        refine ⟨(by show 2 ≤ sizeLine; decide), fun l2 hl2 => ?_⟩
        have sl2 := same_new (o := .lst [.ref p, .ref t]) hl2
        have gl2 : (upd G6 l2 (.lst [.ref p, .ref t])) l2 = some (.lst [.ref p, .ref t]) := upd_same
        generalize upd G6 l2 (.lst [.ref p, .ref t]) = G7 at sl2 gl2 ⊢
        have S57 := st.trans sl2
        have k0 : 0 < (k.den : Int) * (y.den : Int) := Int.mul_pos (den_ge k) (den_ge y)
        have bk : ((k.den : Int) * (y.den : Int)).natAbs < 2 ^ 2000 := by
          rw [Int.natAbs_mul]
          have := Nat.mul_lt_mul'' (dd kd) (dd sy.1)
          rw [← Nat.pow_add] at this
          exact this
        have bn : (k.num * y.num).natAbs < 2 ^ 4000 := by
          rw [Int.natAbs_mul]
          have := Nat.mul_lt_mul'' kn sy.2
          rw [← Nat.pow_add] at this
          exact this
        have bD : ((x.den : Int) * ((k.den : Int) * (y.den : Int))).natAbs < 2 ^ 4200 := by
          rw [Int.natAbs_mul]
          have := Nat.mul_lt_mul'' (dd sx.1) bk
          rw [← Nat.pow_add] at this
          exact up this (by decide)
        refine ⟨l2, _, [(x.num, (x.den : Int)), (k.num * y.num, (k.den : Int) * (y.den : Int))], (x.den : Int) * ((k.den : Int) * (y.den : Int)), rfl, gl2, .cons (S57 _ _ hp5) (.cons (sl2 _ _ gt) .nil), Int.mul_ne_zero (den_ne x) (by omega), bD, fun p hp => ?_, (by show 2 ≤ 100; decide), fun w H8 hw s8 fw => ?_⟩
        · simp only [List.mem_cons, List.not_mem_nil, or_false] at hp
          rcases hp with rfl | rfl
          · exact ⟨den_ge x, Int.dvd_mul_right _ _, up sx.2 (by decide)⟩
          · exact ⟨k0, Int.dvd_mul_left _ _, up bn (by decide)⟩
        rw [sum_two] at fw
        have S8 := sN.trans (S57.trans s8)
        have hws8 := S8 _ _ hws
        have nw : w ≠ D := fun e => by
          rw [e, (sN.trans S57) _ _ hws] at hw
          cases hw
        have lw := FrsAt.len fws
        refine ⟨_, hws8, small1000 (by rw [lw, List.length_zipWith, List.length_take]; omega), fun b o e => ?_, _, upd_same, ?_⟩
        · rw [upd_ne (ne_of_none e hD)]
          exact S8 _ _ (sG _ _ e)
        · rw [zipR_take k _ _ j x y hqx hqy]
          refine FrsAt.app ((PrsAt.same fws S8).but SameBut.upd hws8) (FrsAt.one ?_)
          show (upd H8 D _) w = _
          rw [upd_ne nw]
          exact fw
      · obtain ⟨sG, ws, hws, fws⟩ := hP
        rw [List.length_reverse, Nat.min_self, ll, List.take_length, show (cq ++ [(0 : Rat)]).length = (cq ++ [0]).reverse.length from (List.length_reverse).symm, List.take_length] at fws
        exact ⟨D, _, _, _, _, _, rfl, S4.trans sG, S4.free hD, ws, hws, fws⟩
    · obtain ⟨F, y3, y4, y5, y6, y7, rfl, s1, fF, hF⟩ := hP
      rw [lu, List.take_length] at hF
      exact ⟨_, rfl, q F H' fF s1 hF⟩
end
end E1

namespace E1
open PySem PySem.Spec PyProof.Rows L2

theorem by_q {x f : Rat} {s : Int} (hf : f ≠ 0) (hs : s ≠ 0) : Rat.divInt (x.num * (f.den : Int) * s) ((x.den : Int) * f.num * s) = x / f := by
  have fn := num_ne hf
  have nz : (x.den : Int) * f.num * s ≠ 0 := Int.mul_ne_zero (Int.mul_ne_zero (den_ne x) fn) hs
  apply div_is nz
  have a := q_eq x
  have b := q_eq f
  have e : x / f * f = x := by
    rw [Rat.div_def, Rat.mul_assoc, Rat.inv_mul_cancel _ hf, Rat.mul_one]
  generalize x / f = z at *
  push_cast at *
  grind

theorem sl_le {n : Nat} (h : n ≤ 1000) : n ≤ sizeLine := Nat.le_trans h (by decide)
theorem frC {H : Hp} {p : Addr} {t b : Int} (ht : (Rat.divInt t b).num = t) (hb : ((Rat.divInt t b).den : Int) = b) (h : H p = some (.tup [.int t, .int b])) : Fr H p (Rat.divInt t b) := by
  unfold Fr
  rw [ht, hb]
  exact h
theorem FrL.well {H H' : Hp} {w a : Addr} {c : Int} {qs : List Rat} (h : FrL H a qs) (s : SameBut w H H') (hw : WellAt H w c) (n : a ≠ w) : FrL H' a qs := by
  obtain ⟨vs, e, r⟩ := h
  exact ⟨vs, s _ _ n e, r.well s hw⟩
/-- a list of drawn fractions -/
def PlsAt (ww : Addr) (H0 H : Hp) (c : Int) (D : Addr) (Pq : Rat → Prop) (j : Nat) : Prop := SameBut ww H0 H ∧ WellAt H ww (c + 10 * j) ∧ ∃ ws qs, H D = some (.lst ws) ∧ FrsAt H ws qs ∧ qs.length = j ∧ ∀ q ∈ qs, Pq q
theorem PlsAt.start {ww D : Addr} {H0 : Hp} {c : Int} {Pq : Rat → Prop} (hw : WellAt H0 ww c) (hD : H0 D = none) : PlsAt ww H0 (upd H0 D (.lst [])) c D Pq 0 :=
  ⟨SameBut.of (same_new hD), (hw.same (same_new hD)).mono (by omega), [], [], upd_same, .nil, rfl, fun q h => absurd h List.not_mem_nil⟩
theorem PlsAt.step {ww D p : Addr} {H0 H H2 : Hp} {c : Int} {Pq : Rat → Prop} {j : Nat} {q : Rat} (h : PlsAt ww H0 H c D Pq j) (hD : H0 D = none) (nD : D ≠ ww) (hp : H p = none) (d : SameBut ww H H2) (w2 : WellAt H2 ww (c + 10 * j + 10)) (f : Fr H2 p q) (hq : Pq q) (l : j < 1000) :
    ∃ acc, H2 D = some (.lst acc) ∧ acc.length < sizeLine ∧ PlsAt ww H0 (upd H2 D (.lst (acc ++ [.ref p]))) c D Pq (j + 1) := by
  obtain ⟨b1, w1, ws, qs, hD1, hws, hql, hsc⟩ := h
  have hwl := FrsAt.len hws
  have hD2 := d _ _ nD hD1
  have np : p ≠ D := fun e => by
    rw [e, hD1] at hp
    cases hp
  refine ⟨ws, hD2, small1000 (by omega), fun b o nb e => ?_, ?_, ws ++ [.ref p], qs ++ [q], upd_same, ?_, by rw [List.length_append, hql]; rfl, fun x hx => ?_⟩
  · rw [upd_ne (ne_of_none e hD)]
    exact d _ _ nb (b1 _ _ nb e)
  · have w3 : WellAt (upd H2 D (.lst (ws ++ [.ref p]))) ww (c + 10 * j + 10) := w2.but SameBut.upd (Ne.symm nD)
    exact w3.mono (by omega)
  · have A : FrsAt (upd H2 D (.lst (ws ++ [.ref p]))) ws qs := (PrsAt.well hws d w1).but SameBut.upd hD2
    refine FrsAt.app A (FrsAt.one ?_)
    show (upd H2 D _) p = _
    rw [upd_ne np]
    exact f
  · rcases List.mem_append.mp hx with h | h
    · exact hsc x h
    · rw [List.mem_singleton.mp h]
      exact hq
theorem PlsAt.list {ww D : Addr} {H0 H : Hp} {c : Int} {Pq : Rat → Prop} {j : Nat} (h : PlsAt ww H0 H c D Pq j) : ∃ qs, FrL H D qs ∧ qs.length = j ∧ ∀ q ∈ qs, Pq q := by
  obtain ⟨_, _, ws, qs, h1, h2, h3, h4⟩ := h
  exact ⟨qs, ⟨ws, h1, h2⟩, h3, h4⟩
section
variable {P : Program} {w : World} {K : PySem.W.Frag} {mg : Str → Option Value} {base : Heap}
theorem sc__law_by_first : FnScope ["_law_bottom_here", "_law_first", "_law_sign", "_law_one_here"] ["_law_bottom_here"] (defScope s__law_by_first) := ⟨rfl, rfl, rfl, by decide +kernel, rfl, by decide +kernel, by decide +kernel⟩
theorem ok__law_by_first {f : Addr} {fd : FuncData} (F : Fun K "_law_by_first" "_law_by_first" s__law_by_first f fd) (z : Zs mg) (c__law_low : Cal P w K mg base 1 "_law_low" ["_law_top", "_law_bottom_here"] spLowP) : FnOk P w K mg base CX0 2 f fd ["_law_bottom_here"] spByF := by
  refine F.ok sc__law_by_first (fun vs H Q E h => ?_) (fun cdv A outer s H vs Q E hr h => ?_)
  · obtain ⟨a, qs, rfl, _⟩ := h
    rfl
  · obtain ⟨a, qs, rfl, hq, l0, l1, f0, sz, q⟩ := h
    refine ⟨_, (pss_cons (ps_set (i := 1) sc__law_by_first.nd rfl (.inr rfl) (pe_ix ix_list (pv 0) pe_int (fun _ _ => rfl)))
      (pss_cons (ps_set (i := 2) sc__law_by_first.nd rfl (.inr rfl) (pe_ix ix_list (pe_lst (pa_cons pe_int (pa_cons (pe_un un_neg pe_int) pa_nil))) (pe_callTy call_int1 (by rfl) z.int (by decide +kernel) (pa_cons (pe_cmpR op_lt (pe_ix ix_tup (pv 1) pe_int (fun _ _ => rfl)) pe_int (nomark _)) pa_nil)) (fun _ _ => rfl)))
      (pss_one (ps_ret (pe_lc (own := [("_law_one_here", 3)]) (g := gName 3) (tt := tYes) (te := (tCall spLowP [] E0 (tCons (tOp (rI CMulW fun i j => V.int (i * j)) (tOp (rI CMulW fun i j => V.int (i * j)) (tOp (rIxT K) (tVar 3) (tC (.int 0))) (tOp (rIxT K) (tVar 1) (tC (.int 1)))) (tVar 2)) (tCons (tOp (rI CMulW fun i j => V.int (i * j)) (tOp (rI CMulW fun i j => V.int (i * j)) (tOp (rIxT K) (tVar 3) (tC (.int 1))) (tOp (rIxT K) (tVar 1) (tC (.int 0)))) (tVar 2)) tNil)))) (by rfl) sc__law_by_first.nd (pi_list (pv 0)) (blkOk_by (own := [("_law_one_here", 3)]) (N := ["_law_bottom_here", "_law_first", "_law_sign", "_law_one_here"]) (sc := defScope s__law_by_first) (by decide +kernel)) (fun _ _ _ _ _ => by exact (pg_name (i := 3) sc__law_by_first.nd rfl (.inl rfl))) (fun _ _ _ _ _ => by exact pts_nil) (fun _ _ _ _ _ => by exact (pe_cal c__law_low hr (pa_cons (pe_op op_mulW (pe_op op_mulW (pe_ix ix_tup (pv 3) pe_int (fun _ _ => rfl)) (pe_ix ix_tup (pv 1) pe_int (fun _ _ => rfl))) (pv 2)) (pa_cons (pe_op op_mulW (pe_op op_mulW (pe_ix ix_tup (pv 3) pe_int (fun _ _ => rfl)) (pe_ix ix_tup (pv 1) pe_int (fun _ _ => rfl))) (pv 2)) pa_nil))))))))), ?_⟩
    obtain ⟨vs, ea, lv, hv⟩ := hq.len
    obtain ⟨p0, e0, hp0⟩ := FrsAt.fn hv l0
    have s0 := sz _ (fn_mem l0)
    generalize fn qs 0 = f at *
    refine ⟨_, rfl, a, _, 0, .ref p0, rfl, rfl, SqL.of ea, atI_nat (j := 0) e0, ?_⟩
    refine ⟨_, rfl, (by show 2 ≤ sizeLine; decide), fun l hl => ?_⟩
    have sl := same_new (o := .lst [.int 1, .int (-1)]) hl
    have gl : (upd H l (.lst [.int 1, .int (-1)])) l = some (.lst [.int 1, .int (-1)]) := upd_same
    have hp1 := sl _ _ hp0
    have fz := num_ne f0
    obtain ⟨g, eg, g1, g2⟩ : ∃ g : Int, atI [V.int 1, V.int (-1)] (if decide (f.num < 0) = true then 1 else 0) = some (.int g) ∧ (g = 1 ∨ g = -1) ∧ 0 < f.num * g := by
      by_cases c : f.num < 0
      · rw [decide_eq_true c]
        exact ⟨-1, rfl, .inr rfl, by omega⟩
      · rw [decide_eq_false c]
        exact ⟨1, rfl, .inl rfl, by omega⟩
    refine ⟨_, rfl, p0, _, 0, .int f.num, rfl, rfl, SqT.of hp1, a0, _, _, rfl, rfl, .inr ⟨_, rfl, l, _, _, _, rfl, rfl, SqL.of gl, eg, ?_⟩⟩
    have ea1 := sl _ _ ea
    have hv1 := PrsAt.same hv sl
    generalize upd H l (.lst [.int 1, .int (-1)]) = H1 at sl hp1 ea1 hv1 ⊢
    have gb : g.natAbs < 2 ^ 2 := by
      rcases g1 with rfl | rfl <;> decide
    have dd : ∀ {x : Rat} {e : Nat}, x.den < 2 ^ e → ((x.den : Int)).natAbs < 2 ^ e := fun h => by omega
    have mm : ∀ {x y : Int}, x.natAbs < 2 ^ 2000 → y.natAbs < 2 ^ 2000 → (x * y).natAbs < 2 ^ 4000 := fun hx hy => by
      rw [Int.natAbs_mul]
      have := Nat.mul_lt_mul'' hx hy
      rw [← Nat.pow_add] at this
      exact this
    refine ⟨_, rfl, a, rfl, ⟨_, SqL.of ea1⟩, fun D hD => lc_list (K := K) (a := a) (xs := vs) (fun i G => Same H1 G ∧ ∃ ws, G D = some (.lst ws) ∧ FrsAt G ws ((qs.take i).map fun q => q / f)) ⟨same_new hD, [], upd_same, .nil⟩ (fun i G _ hP => SqL.of (hP.1 _ _ ea1)) (fun i x G hx hP => ?_) (fun G hP => ?_)⟩
    · obtain ⟨sG, ws, hws, fws⟩ := hP
      obtain ⟨p, x, rfl, hqx, hp⟩ := FrsAt.get hv1 hx
      have li := (List.getElem?_eq_some_iff.mp hqx).1
      obtain ⟨x1, x2⟩ := sz x (List.mem_of_getElem? hqx)
      have hpG := sG _ _ hp
      have h0G := sG _ _ hp1
      have lw := FrsAt.len fws
      rw [List.length_map, List.length_take] at lw
      have n1 := mm x2 (dd s0.1)
      have n2 := mm (dd x1) s0.2
      have pos : 0 < (x.den : Int) * f.num * g := by
        rw [Int.mul_assoc]
        exact Int.mul_pos (den_ge x) g2
      refine ⟨rfl, _, rfl, p, _, 0, .int x.num, rfl, rfl, SqT.of hpG, a0, _, rfl, p0, _, 1, .int f.den, rfl, rfl, SqT.of h0G, a1, _, _, rfl, rfl, wide_mul x2 (dd s0.1) (by decide) (by decide) (by decide), _, rfl, _, _, rfl, rfl, wide_mul n1 gb (by decide) (by decide) (by decide), _, rfl, p, _, 1, .int x.den, rfl, rfl, SqT.of hpG, a1, _, rfl, p0, _, 0, .int f.num, rfl, rfl, SqT.of h0G, a0, _, _, rfl, rfl, wide_mul (dd x1) s0.2 (by decide) (by decide) (by decide), _, rfl, _, _, rfl, rfl, wide_mul n2 gb (by decide) (by decide) (by decide), _, _, rfl, pos, ?_, fun t ht => ?_⟩
      · rw [Int.natAbs_mul]
        have := Nat.mul_lt_mul'' n2 gb
        rw [← Nat.pow_add] at this
        exact up this (by decide)
      have st := same_new (o := .tup [.int (lowT (x.num * (f.den : Int) * g) ((x.den : Int) * f.num * g)), .int (lowB (x.num * (f.den : Int) * g) ((x.den : Int) * f.num * g))]) ht
      have ft : Fr (upd G t (.tup [.int (lowT (x.num * (f.den : Int) * g) ((x.den : Int) * f.num * g)), .int (lowB (x.num * (f.den : Int) * g) ((x.den : Int) * f.num * g))])) t (x / f) := Fr.low (by omega) (by_q f0 (by omega)) upd_same
      have nt : t ≠ D := fun e => by
        rw [e, hws] at ht
        cases ht
      refine ⟨_, st _ _ hws, small1000 (by omega), fun b o e => ?_, _, upd_same, ?_⟩
      · rw [upd_ne (ne_of_none e hD)]
        exact st _ _ (sG _ _ e)
      · rw [List.take_succ, hqx, Option.toList_some, List.map_append]
        refine FrsAt.app ((PrsAt.same fws st).but SameBut.upd (st _ _ hws)) (FrsAt.one ?_)
        show (upd (upd G t _) D _) t = _
        rw [upd_ne nt]
        exact ft
    · obtain ⟨sG, ws, hws, fws⟩ := hP
      rw [lv, List.take_length] at fws
      exact q D G (sl.free hD) (sl.trans sG) ⟨ws, hws, fws⟩
theorem sc__law_left : FnScope ["_law_well_here", "_law_middle", "_law_last", "_law_k"] ["_law_well_here"] (defScope s__law_left) := ⟨rfl, rfl, rfl, by decide +kernel, rfl, by decide +kernel, by decide +kernel⟩
theorem ok__law_left {f : Addr} {fd : FuncData} (F : Fun K "_law_left" "_law_left" s__law_left f fd) (z : Zs mg) (c__law_draw : Cal P w K mg base 1 "_law_draw" ["_law_well_here", "_law_many"] spDraw) (c__law_one : Cal P w K mg base 2 "_law_one" ["_law_well_here", "_law_some"] spOne) (c__law_place : Cal P w K mg base 2 "_law_place" ["_law_well_here", "_law_kind"] spPlace) : FnOk P w K mg base CX0 3 f fd ["_law_well_here"] spLeft := by
  refine F.ok sc__law_left (fun vs H Q E h => ?_) (fun cdv A outer s H vs Q E hr h => ?_)
  · obtain ⟨ww, c, rfl, _⟩ := h
    rfl
  · obtain ⟨ww, c, rfl, hw, hc, q⟩ := h
    refine ⟨_, (pss_cons (ps_setLc (i := 1) (own := [("_law_k", 3)]) (g := gName 3) (tt := tYes) (te := (tCall spPlace [] E0 (tCons (tVar 0) (tCons (tC (.int 0)) tNil)))) (by rfl) sc__law_left.nd rfl rfl (sw_true rfl rfl rfl (by decide +kernel)) (pi_range1 (by rfl) z.range (pa_cons (pe_cal c__law_draw hr (pa_cons (pv 0) (pa_cons pe_int pa_nil))) pa_nil)) (blkOk_by (own := [("_law_k", 3)]) (N := ["_law_well_here", "_law_middle", "_law_last", "_law_k"]) (sc := defScope s__law_left) (by decide +kernel)) (fun _ _ _ _ _ => by exact (pg_name (i := 3) sc__law_left.nd rfl (.inl rfl))) (fun _ _ _ _ _ => by exact pts_nil) (fun _ _ _ _ _ => by exact (pe_cal c__law_place hr (pa_cons (pv 0) (pa_cons pe_int pa_nil)))))
      (pss_cons (ps_set (i := 2) sc__law_left.nd rfl (.inl rfl) (pe_cal c__law_one hr (pa_cons (pv 0) (pa_cons (pe_lst (pa_cons (pe_tup (pa_cons pe_int (pa_cons pe_int pa_nil))) (pa_cons (pe_tup (pa_cons (pe_un un_neg pe_int) (pa_cons pe_int pa_nil))) (pa_cons (pe_tup (pa_cons pe_int (pa_cons pe_int pa_nil))) (pa_cons (pe_tup (pa_cons (pe_un un_neg pe_int) (pa_cons pe_int pa_nil))) (pa_cons (pe_tup (pa_cons (pe_op op_add (pe_op op_pow pe_int pe_int) pe_int) (pa_cons (pe_op op_pow pe_int pe_int) pa_nil))) pa_nil)))))) pa_nil))))
      (pss_one (ps_ret (pe_op op_cat (pe_op op_cat (pe_lst (pa_cons (pe_tup (pa_cons pe_int (pa_cons pe_int pa_nil))) pa_nil)) (pv 1)) (pe_lst (pa_cons (pv 2) pa_nil))))))), ?_⟩
    refine ⟨_, rfl, ww, c, 3, rfl, hw, by omega, by decide, by decide, fun r1 H1 r10 r11 d1 f1 w1 => ⟨_, rfl, by omega, by omega, fun D hD => ?_⟩⟩
    obtain ⟨n, rfl⟩ := Int.eq_ofNat_of_zero_le r10
    rw [Int.toNat_natCast]
    have nD := w1.ne hD
    refine lc_range (lo := 0) (n := n) (fun j H' => PlsAt ww H1 H' (c + 1) D (fun q => Sc 6 18 q) j) (PlsAt.start w1 hD) (fun j H2 hj hP => ?_) (fun H2 hP => ?_)
    · refine ⟨rfl, _, rfl, ww, _, _, rfl, hP.2.1, by omega, fun p t b H3 hp d3 w3 f3 b1 b2 t1 k0 => ?_⟩
      exact hP.step hD nD hp d3 (w3.mono (by omega)) f3 (k0 rfl) (by omega)
    · obtain ⟨qs, fD, lq, sq⟩ := hP.list
      have w2 := hP.2.1
      have b2 := hP.1
      refine ⟨_, rfl, (by show 2 ≤ sizeLine; decide), fun k0 hk0 => ?_⟩
      generalize hU : upd _ k0 _ = kG0
      have kf0 : Fr kG0 k0 (Rat.divInt 1 1) := by
        rw [← hU]
        exact frC (by decide +kernel) (by decide +kernel) upd_same
      have ks0 : Same H2 kG0 := by
        rw [← hU]
        exact same_new hk0
      clear hU
      refine ⟨_, rfl, (by show 2 ≤ sizeLine; decide), fun k1 hk1 => ?_⟩
      generalize hU : upd _ k1 _ = kG1
      have kf1 : Fr kG1 k1 (Rat.divInt (-1) 1) := by
        rw [← hU]
        exact frC (by decide +kernel) (by decide +kernel) upd_same
      have ks1 : Same kG0 kG1 := by
        rw [← hU]
        exact same_new hk1
      clear hU
      refine ⟨(by show 2 ≤ sizeLine; decide), fun k2 hk2 => ?_⟩
      generalize hU : upd _ k2 _ = kG2
      have kf2 : Fr kG2 k2 (Rat.divInt 3 2) := by
        rw [← hU]
        exact frC (by decide +kernel) (by decide +kernel) upd_same
      have ks2 : Same kG1 kG2 := by
        rw [← hU]
        exact same_new hk2
      clear hU
      refine ⟨_, rfl, (by show 2 ≤ sizeLine; decide), fun k3 hk3 => ?_⟩
      generalize hU : upd _ k3 _ = kG3
      have kf3 : Fr kG3 k3 (Rat.divInt (-5) 1) := by
        rw [← hU]
        exact frC (by decide +kernel) (by decide +kernel) upd_same
      have ks3 : Same kG2 kG3 := by
        rw [← hU]
        exact same_new hk3
      clear hU
      refine ⟨_, _, rfl, rfl, ⟨by decide, by decide, by decide⟩, _, _, rfl, rfl, _, _, rfl, rfl, ⟨by decide, by decide, by decide⟩, (by show 2 ≤ sizeLine; decide), fun k4 hk4 => ?_⟩
      generalize hU : upd _ k4 _ = kG4
      have kf4 : Fr kG4 k4 (Rat.divInt 1000001 1000000) := by
        rw [← hU]
        exact frC (by decide +kernel) (by decide +kernel) upd_same
      have ks4 : Same kG3 kG4 := by
        rw [← hU]
        exact same_new hk4
      clear hU
      refine ⟨(by show 5 ≤ sizeLine; decide), fun kl hkl => ?_⟩
      generalize hU : upd _ kl _ = kG
      have ke : kG kl = some (.lst [.ref k0, .ref k1, .ref k2, .ref k3, .ref k4]) := by
        rw [← hU]
        exact upd_same
      have kt : Same kG4 kG := by
        rw [← hU]
        exact same_new hkl
      clear hU
      have kS : Same H2 kG := (ks0.trans (ks1.trans (ks2.trans (ks3.trans (ks4.trans kt)))))
      have kA : ∀ v ∈ [V.ref k0, V.ref k1, V.ref k2, V.ref k3, V.ref k4], ∃ p q, v = V.ref p ∧ Fr kG p q ∧ (¬ Ins q ∧ Sc 6000000 100000000 q) := fun v hv => by
        simp only [List.mem_cons, List.not_mem_nil, or_false] at hv
        rcases hv with rfl | rfl | rfl | rfl | rfl
        · exact ⟨_, _, rfl, Fr.same kf0 (ks1.trans (ks2.trans (ks3.trans (ks4.trans kt)))), ⟨(by unfold Ins; decide +kernel), ⟨6000000, by decide +kernel, by decide⟩⟩⟩
        · exact ⟨_, _, rfl, Fr.same kf1 (ks2.trans (ks3.trans (ks4.trans kt))), ⟨(by unfold Ins; decide +kernel), ⟨-6000000, by decide +kernel, by decide⟩⟩⟩
        · exact ⟨_, _, rfl, Fr.same kf2 (ks3.trans (ks4.trans kt)), ⟨(by unfold Ins; decide +kernel), ⟨9000000, by decide +kernel, by decide⟩⟩⟩
        · exact ⟨_, _, rfl, Fr.same kf3 (ks4.trans kt), ⟨(by unfold Ins; decide +kernel), ⟨-30000000, by decide +kernel, by decide⟩⟩⟩
        · exact ⟨_, _, rfl, Fr.same kf4 kt, ⟨(by unfold Ins; decide +kernel), ⟨6000006, by decide +kernel, by decide⟩⟩⟩
      have w3 := w2.same kS
      have nk : kl ≠ ww := fun z => by
        obtain ⟨_, _, _, ee, _⟩ := w3
        rw [← z, ke] at ee
        cases ee
      refine ⟨ww, kl, _, _, rfl, w3, by omega, nk, ke, (by show 0 < 5; decide), (by show 5 ≤ 1000; decide), fun v hv H3 d3 f3 w4 => ?_⟩
      obtain ⟨p, x, rfl, fx, nx, sx⟩ := kA v hv
      have fx3 := fx.well d3 w3
      have fD3 := (fD.same kS).well d3 w3 nD
      have S3 : SameBut ww H H3 := d1.trans (b2.trans ((SameBut.of kS).trans d3))
      refine ⟨(by show 2 ≤ sizeLine; decide), fun o1 ho1 => ?_⟩
      have so := same_new (o := .tup [.int 1, .int 1]) ho1
      have fo : Fr (upd H3 o1 (.tup [.int 1, .int 1])) o1 1 := upd_same
      generalize upd H3 o1 (.tup [.int 1, .int 1]) = G1 at so fo ⊢
      refine ⟨(by show 1 ≤ sizeLine; decide), fun l1 hl1 => ?_⟩
      have s1 := same_new (o := .lst [.ref o1]) hl1
      have e1 : (upd G1 l1 (.lst [.ref o1])) l1 = some (.lst [.ref o1]) := upd_same
      generalize upd G1 l1 (.lst [.ref o1]) = G2 at s1 e1 ⊢
      obtain ⟨ws, eD, lw, hws⟩ := (fD3.same (so.trans s1)).len
      refine ⟨_, rfl, l1, D, _, _, rfl, rfl, e1, eD, sl_le (by show 1 + ws.length ≤ 1000; omega), fun m1 hm1 => ?_⟩
      have s2 := same_new (o := .lst ([V.ref o1] ++ ws)) hm1
      have e2 : (upd G2 m1 (.lst ([V.ref o1] ++ ws))) m1 = some (.lst ([V.ref o1] ++ ws)) := upd_same
      generalize upd G2 m1 (.lst ([V.ref o1] ++ ws)) = G3 at s2 e2 ⊢
      refine ⟨_, rfl, (by show 1 ≤ sizeLine; decide), fun l2 hl2 => ?_⟩
      have s3 := same_new (o := .lst [.ref p]) hl2
      have e3 : (upd G3 l2 (.lst [.ref p])) l2 = some (.lst [.ref p]) := upd_same
      generalize upd G3 l2 (.lst [.ref p]) = G4 at s3 e3 ⊢
      refine ⟨m1, l2, _, _, rfl, rfl, s3 _ _ e2, e3, sl_le (by show ([V.ref o1] ++ ws).length + 1 ≤ 1000; rw [List.length_append]; show 1 + ws.length + 1 ≤ 1000; omega), fun F hF => ?_⟩
      have s4 := same_new (o := .lst ([V.ref o1] ++ ws ++ [V.ref p])) hF
      have T4 := so.trans (s1.trans (s2.trans (s3.trans s4)))
      have S4 := S3.trans (SameBut.of T4)
      have hF0 : H F = none := but_free (S3.trans (SameBut.of (so.trans (s1.trans (s2.trans s3))))) hF (((w4.same (so.trans (s1.trans (s2.trans s3)))).ne hF))
      refine q F ([1] ++ qs ++ [x]) _ hF0 S4 ?_ ⟨_, upd_same, FrsAt.app (FrsAt.app (FrsAt.one (fo.same (s1.trans (s2.trans (s3.trans s4))))) (PrsAt.same hws (s2.trans (s3.trans s4)))) (FrsAt.one (fx3.same T4))⟩ ?_ ?_ ?_ ?_
      · have w6 := w4.same T4
        have n3 : n < 3 := by omega
        exact w6.mono (show c + 1 + 10 * (n : Int) + 1 ≤ c + 50 by omega)
      · refine .inr ⟨?_, rfl, ?_⟩
        · rw [List.length_append, List.length_append]
          show 2 ≤ 1 + qs.length + 1
          omega
        · rw [List.length_append, List.length_singleton, Nat.add_sub_cancel, List.getD_eq_getElem?_getD, List.getElem?_append_right (Nat.le_refl _), Nat.sub_self]
          exact nx
      · rw [List.length_append, List.length_append]
        show 2 ≤ 1 + qs.length + 1
        omega
      · rw [List.length_append, List.length_append]
        show 1 + qs.length + 1 ≤ 4
        omega
      · intro y hy
        rcases List.mem_append.mp hy with hy | hy
        · rcases List.mem_append.mp hy with hy | hy
          · rw [List.mem_singleton.mp hy]
            exact ⟨6000000, by decide +kernel, by decide⟩
          · have := (sq y hy).scale (k := 1000000)
            exact Sc.mono this (by decide)
        · rw [List.mem_singleton.mp hy]
          exact sx
end
end E1

namespace E1
open PySem PySem.Spec PyProof.Rows L2

def spNo : Sp := fun _ _ _ _ => False
def spPlT : Sp := fun vs H Q _ => ∃ (p : Addr) (q : Rat), vs = [.ref p] ∧ Fr H p q ∧ ((q.den : Int)).natAbs < 2 ^ 8500 ∧ ∀ H', Same H H' → Q (.bl true) H'
def spPlL : Sp := fun vs H Q _ => ∃ (a : Addr) (qs : List Rat), vs = [.ref a] ∧ FrL H a qs ∧ qs.length ≤ 1000 ∧ (∀ q ∈ qs, ((q.den : Int)).natAbs < 2 ^ 8500) ∧ ∀ H', Same H H' → Q (.bl true) H'
theorem low_self (q : Rat) : lowT q.num q.den = q.num ∧ lowB q.num q.den = (q.den : Int) := by
  rw [← (lowTP (t := q.num) (den_ge q)).1, ← (lowTP (t := q.num) (den_ge q)).2, q_gcd, Int.ediv_one, Int.ediv_one]
  exact ⟨rfl, rfl⟩

theorem iteC {c d : Bool} {A B : Prop} (e : c = d) (h : if d = true then A else B) : if c = true then A else B := e ▸ h
theorem room65 {k : Nat} {A : Around} (h : Room k A) : A.units + 65 < cLine := by
  have := h.un
  omega
theorem Ins.of {k : Rat} (h : k.num.natAbs < k.den) : Ins k := by
  have e : (k.num : Rat) / ((k.den : Int) : Rat) = k := div_of (cast_ne (den_ne k)) (q_eq k).symm
  rw [← e]
  exact (ins_iff (den_ge k)).mpr ⟨by omega, by omega⟩
def spRight : Sp := fun vs H Q _ => ∃ (b T : Addr) (qs : List Rat) (H0 : Hp), vs = [.ref b, .ref T] ∧ FrL H b qs ∧ 0 < qs.length ∧ qs.length ≤ 20 ∧ fn qs 0 ≠ 0 ∧ (∀ q ∈ qs, q.den < 2 ^ 2000 ∧ q.num.natAbs < 2 ^ 2000) ∧ LadR H0 H T (qs.map fun q => q / fn qs 0) ∧ LadOk (qs.map fun q => q / fn qs 0) ∧ ∀ H', Same H H' → Q (.bl true) H'
section
variable {P : Program} {w : World} {K : PySem.W.Frag} {mg : Str → Option Value} {base : Heap}
theorem sc__law_plain : FnScope ["_law_told", "_law_one_here"] ["_law_told"] (defScope s__law_plain) := ⟨rfl, rfl, rfl, by decide +kernel, rfl, by decide +kernel, by decide +kernel⟩
theorem ok_plainN {f : Addr} {fd : FuncData} {k : Nat} (F : Fun K "_law_plain" "_law_plain" s__law_plain f fd) : FnOk P w K mg base CX0 (k + 1) f fd ["_law_told"] spNo := by
  refine F.ok sc__law_plain (fun vs H Q E h => ?_) (fun cdv A outer s H vs Q E hr h => ?_)
  · exact False.elim h
  · exact False.elim h
theorem ok_plainT {f : Addr} {fd : FuncData} (F : Fun K "_law_plain" "_law_plain" s__law_plain f fd) (z : Zs mg) (c__law_plain : Cal P w K mg base 1 "_law_plain" ["_law_told"] spNo) (c__law_low : Cal P w K mg base 1 "_law_low" ["_law_top", "_law_bottom_here"] spLowP) : FnOk P w K mg base CX0 2 f fd ["_law_told"] spPlT := by
  refine F.ok sc__law_plain (fun vs H Q E h => ?_) (fun cdv A outer s H vs Q E hr h => ?_)
  · obtain ⟨p, q, rfl, _⟩ := h
    rfl
  · obtain ⟨p, q, rfl, ha, hl, k⟩ := h
    refine ⟨_, (pss_cons (ps_if (pt_val (pe_callB call_isi (by rfl) z.isinstance (by decide +kernel) (pa_cons (pv 0) (pa_cons (pe_bltn (v := .ty "list") (by rfl) z.list (by decide +kernel) rfl) pa_nil)))) (pss_one (ps_ret (pe_callB (cr_all rfl) (by rfl) z.all (by decide +kernel) (pa_cons (pe_lc (own := [("_law_one_here", 1)]) (g := gName 1) (tt := tYes) (te := (tCall spNo [] E0 (tCons (tVar 1) tNil))) (by rfl) sc__law_plain.nd (pi_tup (pv 0)) (blkOk_by (own := [("_law_one_here", 1)]) (N := ["_law_told", "_law_one_here"]) (sc := defScope s__law_plain) (by decide +kernel)) (fun _ _ _ _ _ => by exact (pg_name (i := 1) sc__law_plain.nd rfl (.inl rfl))) (fun _ _ _ _ _ => by exact pts_nil) (fun _ _ _ _ _ => by exact (pe_cal c__law_plain hr (pa_cons (pv 1) pa_nil)))) pa_nil)))) pss_nil)
      (pss_cons (ps_if (PW.pt (pw_or (pt_not (pt_val (pe_callB call_isi (by rfl) z.isinstance (by decide +kernel) (pa_cons (pv 0) (pa_cons (pe_bltn (v := .ty "tuple") (by rfl) z.tuple (by decide +kernel) rfl) pa_nil))))) (pw_or1 (pt_cmpR op_ne (pe_callB call_len_seq (by rfl) z.len PySem.boot_len (pa_cons (pv 0) pa_nil)) pe_int (nomark _))))) (pss_one (ps_ret pe_bl)) pss_nil)
      (pss_cons (ps_if (pt_not (pt_val (pe_callB (cr_all rfl) (by rfl) z.all (by decide +kernel) (pa_cons (pe_lc (own := [("_law_one_here", 1)]) (g := gName 1) (tt := tYes) (te := tAndV (tCB (rIsi K) (tCons (tVar 1) (tCons (tC (.ty "int")) tNil))) (tNotV (tCB (rIsi K) (tCons (tVar 1) (tCons (tC (.ty "bool")) tNil))))) (by rfl) sc__law_plain.nd (pi_tup (pv 0)) (blkOk_by (own := [("_law_one_here", 1)]) (N := ["_law_told", "_law_one_here"]) (sc := defScope s__law_plain) (by decide +kernel)) (fun _ _ _ _ _ => by exact (pg_name (i := 1) sc__law_plain.nd rfl (.inl rfl))) (fun _ _ _ _ _ => by exact pts_nil) (fun _ _ _ _ _ => by exact (pe_and (pe_callB call_isi (by rfl) z.isinstance (by decide +kernel) (pa_cons (pv 1) (pa_cons (pe_bltn (v := .ty "int") (by rfl) z.int (by decide +kernel) rfl) pa_nil))) (pe_one (pe_not (pe_callB call_isi (by rfl) z.isinstance (by decide +kernel) (pa_cons (pv 1) (pa_cons (pe_bltn (v := .ty "bool") (by rfl) z.bool (by decide +kernel) rfl) pa_nil)))))))) pa_nil)))) (pss_one (ps_ret pe_bl)) pss_nil)
      (pss_one (ps_ret (pe_and (pe_cmpR op_gt (pe_ix ix_tup (pv 0) pe_int (fun _ _ => rfl)) pe_int (nomark _)) (pe_one (pe_cmpR (op_eqD hr.units) (pe_cal c__law_low hr (pa_cons (pe_ix ix_tup (pv 0) pe_int (fun _ _ => rfl)) (pa_cons (pe_ix ix_tup (pv 0) pe_int (fun _ _ => rfl)) pa_nil))) (pv 0) (nomark _))))))))), ?_⟩
    refine ⟨_, rfl, _, .ty "list", _, _, false, rfl, .ty _, .base (.tup ha), kit_ty (by decide +kernel), _, rfl, iteF ?_⟩
    refine ⟨_, rfl, _, .ty "tuple", _, _, true, rfl, .ty _, .base (.tup ha), kit_ty (by decide +kernel), _, rfl, iteF ⟨_, rfl, p, _, rfl, .inr (SqT.of ha), rfl, _, rfl, iteF ?_⟩⟩
    refine ⟨_, rfl, p, rfl, ⟨_, SqT.of ha⟩, fun D hD => lc_tup (K := K) (a := p) (xs := [.int q.num, .int (q.den : Int)]) (fun i H' => Same H H' ∧ H' D = some (.lst (List.replicate i (V.bl true)))) ⟨same_new hD, upd_same⟩ (fun i H' _ hP => SqT.of (hP.1 _ _ ha)) (fun i x H' hx hP => ?_) (fun H' hP => ?_)⟩
    · obtain ⟨s1, hacc⟩ := hP
      obtain ⟨n, rfl⟩ : ∃ n : Int, x = .int n := by
        have := List.mem_of_getElem? hx
        simp only [List.mem_cons, List.not_mem_nil, or_false] at this
        rcases this with rfl | rfl <;> exact ⟨_, rfl⟩
      have hi : i < 2 := (List.getElem?_eq_some_iff.mp hx).1
      refine ⟨rfl, _, rfl, _, .ty "int", _, _, true, rfl, .ty _, .base (.int _), kit_ty (by decide +kernel), _, rfl, iteT ⟨_, rfl, _, .ty "bool", _, _, false, rfl, .ty _, .base (.int _), kit_ty (by decide +kernel), _, rfl, ?_⟩⟩
      refine ⟨_, hacc, ?_, fun b o e => ?_, ?_⟩
      · rw [List.length_replicate]
        exact small1000 (by omega)
      · rw [upd_ne (ne_of_none e hD)]
        exact s1 _ _ e
      · rw [upd_same, List.replicate_succ']
        rfl
    · obtain ⟨s1, hacc⟩ := hP
      refine ⟨D, List.replicate _ true, rfl, SqL.of (by rw [List.map_replicate]; exact hacc), ?_⟩
      rw [rep_all]
      have ha1 := s1 _ _ ha
      refine ⟨_, rfl, iteF ⟨_, rfl, p, _, 1, .int (q.den : Int), rfl, rfl, SqT.of ha1, a1, _, _, rfl, rfl, _, rfl, ite2 (fun _ => ?_) (fun c => absurd (decide_eq_true (den_ge q)) c)⟩⟩
      refine ⟨_, rfl, p, _, 0, .int q.num, rfl, rfl, SqT.of ha1, a0, _, rfl, p, _, 1, .int (q.den : Int), rfl, rfl, SqT.of ha1, a1, q.num, (q.den : Int), rfl, den_ge q, hl, fun p2 hp2 => ?_⟩
      have s2 := same_new (o := .tup [.int (lowT q.num q.den), .int (lowB q.num q.den)]) hp2
      have f2 : Fr (upd H' p2 (.tup [.int (lowT q.num q.den), .int (lowB q.num q.den)])) p2 q := by
        show (upd H' p2 _) p2 = _
        rw [upd_same, (low_self q).1, (low_self q).2]
      refine ⟨_, rfl, frD q, frD q, f2.dp, Fr.dp (s2 _ _ ha1), frD_shaped _, frD_shaped _, ?_⟩
      rw [frD_eqv, decide_eq_true rfl]
      exact k _ (s1.trans s2)
theorem ok_plainL {f : Addr} {fd : FuncData} (F : Fun K "_law_plain" "_law_plain" s__law_plain f fd) (z : Zs mg) (c__law_plain : Cal P w K mg base 2 "_law_plain" ["_law_told"] spPlT) (c__law_low : Cal P w K mg base 1 "_law_low" ["_law_top", "_law_bottom_here"] spLowP) : FnOk P w K mg base CX0 3 f fd ["_law_told"] spPlL := by
  refine F.ok sc__law_plain (fun vs H Q E h => ?_) (fun cdv A outer s H vs Q E hr h => ?_)
  · obtain ⟨a, qs, rfl, _⟩ := h
    rfl
  · obtain ⟨a, qs, rfl, ⟨vs, ha, hq⟩, hl, hd, k⟩ := h
    refine ⟨_, (pss_cons (ps_if (pt_val (pe_callB call_isi (by rfl) z.isinstance (by decide +kernel) (pa_cons (pv 0) (pa_cons (pe_bltn (v := .ty "list") (by rfl) z.list (by decide +kernel) rfl) pa_nil)))) (pss_one (ps_ret (pe_callB (cr_all rfl) (by rfl) z.all (by decide +kernel) (pa_cons (pe_lc (own := [("_law_one_here", 1)]) (g := gName 1) (tt := tYes) (te := (tCall spPlT [] E0 (tCons (tVar 1) tNil))) (by rfl) sc__law_plain.nd (pi_list (pv 0)) (blkOk_by (own := [("_law_one_here", 1)]) (N := ["_law_told", "_law_one_here"]) (sc := defScope s__law_plain) (by decide +kernel)) (fun _ _ _ _ _ => by exact (pg_name (i := 1) sc__law_plain.nd rfl (.inl rfl))) (fun _ _ _ _ _ => by exact pts_nil) (fun _ _ _ _ _ => by exact (pe_cal c__law_plain hr (pa_cons (pv 1) pa_nil)))) pa_nil)))) pss_nil)
      (pss_cons (ps_if (PW.pt (pw_or (pt_not (pt_val (pe_callB call_isi (by rfl) z.isinstance (by decide +kernel) (pa_cons (pv 0) (pa_cons (pe_bltn (v := .ty "tuple") (by rfl) z.tuple (by decide +kernel) rfl) pa_nil))))) (pw_or1 (pt_cmpR op_ne (pe_callB call_len_seq (by rfl) z.len PySem.boot_len (pa_cons (pv 0) pa_nil)) pe_int (nomark _))))) (pss_one (ps_ret pe_bl)) pss_nil)
      (pss_cons (ps_if (pt_not (pt_val (pe_callB (cr_all rfl) (by rfl) z.all (by decide +kernel) (pa_cons (pe_lc (own := [("_law_one_here", 1)]) (g := gName 1) (tt := tYes) (te := tAndV (tCB (rIsi K) (tCons (tVar 1) (tCons (tC (.ty "int")) tNil))) (tNotV (tCB (rIsi K) (tCons (tVar 1) (tCons (tC (.ty "bool")) tNil))))) (by rfl) sc__law_plain.nd (pi_list (pv 0)) (blkOk_by (own := [("_law_one_here", 1)]) (N := ["_law_told", "_law_one_here"]) (sc := defScope s__law_plain) (by decide +kernel)) (fun _ _ _ _ _ => by exact (pg_name (i := 1) sc__law_plain.nd rfl (.inl rfl))) (fun _ _ _ _ _ => by exact pts_nil) (fun _ _ _ _ _ => by exact (pe_and (pe_callB call_isi (by rfl) z.isinstance (by decide +kernel) (pa_cons (pv 1) (pa_cons (pe_bltn (v := .ty "int") (by rfl) z.int (by decide +kernel) rfl) pa_nil))) (pe_one (pe_not (pe_callB call_isi (by rfl) z.isinstance (by decide +kernel) (pa_cons (pv 1) (pa_cons (pe_bltn (v := .ty "bool") (by rfl) z.bool (by decide +kernel) rfl) pa_nil)))))))) pa_nil)))) (pss_one (ps_ret pe_bl)) pss_nil)
      (pss_one (ps_ret (pe_and (pe_cmpR op_gt (pe_ix ix_tup (pv 0) pe_int (fun _ _ => rfl)) pe_int (nomark _)) (pe_one (pe_cmpR (op_eqD hr.units) (pe_cal c__law_low hr (pa_cons (pe_ix ix_tup (pv 0) pe_int (fun _ _ => rfl)) (pa_cons (pe_ix ix_tup (pv 0) pe_int (fun _ _ => rfl)) pa_nil))) (pv 0) (nomark _))))))))), ?_⟩
    have hlen := FrsAt.len hq
    refine ⟨_, rfl, _, .ty "list", _, _, true, rfl, .ty _, .base (.lst ha), kit_ty (by decide +kernel), _, rfl, iteT ⟨_, rfl, a, rfl, ⟨_, SqL.of ha⟩, fun D hD => lc_list (K := K) (a := a) (xs := vs) (fun i H' => Same H H' ∧ H' D = some (.lst (List.replicate i (V.bl true)))) ⟨same_new hD, upd_same⟩ (fun i H' _ hP => SqL.of (hP.1 _ _ ha)) (fun i x H' hx hP => ?_) (fun H' hP => ?_)⟩⟩
    · obtain ⟨s1, hacc⟩ := hP
      obtain ⟨p, r, rfl, hr', hp⟩ := FrsAt.get hq hx
      have hi := (List.getElem?_eq_some_iff.mp hx).1
      refine ⟨rfl, _, rfl, p, r, rfl, s1 _ _ hp, hd r (List.mem_of_getElem? hr'), fun H2 s2 => ?_⟩
      refine ⟨_, s2 _ _ hacc, ?_, fun b o e => ?_, ?_⟩
      · rw [List.length_replicate]
        exact small1000 (by omega)
      · rw [upd_ne (ne_of_none e hD)]
        exact s2 _ _ (s1 _ _ e)
      · rw [upd_same, List.replicate_succ']
    · obtain ⟨s1, hacc⟩ := hP
      refine ⟨D, List.replicate _ true, rfl, SqL.of (by rw [List.map_replicate]; exact hacc), ?_⟩
      rw [rep_all]
      exact k _ s1
end
end E1

namespace E1
open PySem PySem.Spec PyProof.Rows L2
section
variable {P : Program} {w : World} {K : PySem.W.Frag} {mg : Str → Option Value} {base : Heap}
theorem sc__law_right : FnScope ["_law_bottom_here", "_law_told", "_law_rest", "_law_one_here", "_law_k"] ["_law_bottom_here", "_law_told"] (defScope s__law_right) := ⟨rfl, rfl, rfl, by decide +kernel, rfl, by decide +kernel, by decide +kernel⟩
theorem ok__law_right {f : Addr} {fd : FuncData} (F : Fun K "_law_right" "_law_right" s__law_right f fd) (z : Zs mg) (c__law_plain : Cal P w K mg base 3 "_law_plain" ["_law_told"] spPlL) (c__law_raised : Cal P w K mg base 3 "_law_raised" ["_law_rest", "_law_ks"] spLRais) (c__law_by_first : Cal P w K mg base 2 "_law_by_first" ["_law_bottom_here"] spByF) : FnOk P w K mg base CX0 4 f fd ["_law_bottom_here", "_law_told"] spRight := by
  refine F.ok sc__law_right (fun vs H Q E h => ?_) (fun cdv A outer s H vs Q E hr h => ?_)
  · obtain ⟨b, T, qs, H0, rfl, _⟩ := h
    rfl
  · obtain ⟨b, T, qs, H0, rfl, hq, l0, l1, q0, sz, LR, lo, q⟩ := h
    refine ⟨_, (pss_cons (ps_if (PW.pt (pw_or (pt_not (pt_val (pe_callB call_isi (by rfl) z.isinstance (by decide +kernel) (pa_cons (pv 1) (pa_cons (pe_bltn (v := .ty "tuple") (by rfl) z.tuple (by decide +kernel) rfl) pa_nil))))) (pw_or (pt_cmpR (op_notInD (room65 hr)) (pe_slice sl_tupA (pv 1) po_none (po_some pe_int)) (pe_lst (pa_cons (pe_tup (pa_cons pe_str pa_nil)) (pa_cons (pe_tup (pa_cons pe_str pa_nil)) pa_nil))) (by rfl)) (pw_or1 (pt_cmpR op_ne (pe_callB call_len_seq (by rfl) z.len PySem.boot_len (pa_cons (pv 1) pa_nil)) (pe_op op_add pe_int (pe_callTy call_int1 (by rfl) z.int (by decide +kernel) (pa_cons (pe_cmpR op_eq (pe_ix ix_tup (pv 1) pe_int (fun _ _ => rfl)) pe_str (nomark _)) pa_nil))) (nomark _)))))) (pss_one (ps_ret pe_bl)) pss_nil)
      (pss_cons (ps_if (pt_not (pt_val (pe_callB (cr_all rfl) (by rfl) z.all (by decide +kernel) (pa_cons (pe_lc (own := [("_law_one_here", 3)]) (g := gName 3) (tt := tYes) (te := (tAndV (tCB (rIsi K) (tCons (tVar 3) (tCons (tC (.ty "list")) tNil))) (tCall spPlL [] E0 (tCons (tVar 3) tNil)))) (by rfl) sc__law_right.nd (pi_tup (pe_slice sl_tupA (pv 1) (po_some pe_int) po_none)) (blkOk_by (own := [("_law_one_here", 3)]) (N := ["_law_bottom_here", "_law_told", "_law_rest", "_law_one_here", "_law_k"]) (sc := defScope s__law_right) (by decide +kernel)) (fun _ _ _ _ _ => by exact (pg_name (i := 3) sc__law_right.nd rfl (.inl rfl))) (fun _ _ _ _ _ => by exact pts_nil) (fun _ _ _ _ _ => by exact (pe_and (pe_callB call_isi (by rfl) z.isinstance (by decide +kernel) (pa_cons (pv 3) (pa_cons (pe_bltn (v := .ty "list") (by rfl) z.list (by decide +kernel) rfl) pa_nil))) (pe_one (pe_cal c__law_plain hr (pa_cons (pv 3) pa_nil)))))) pa_nil)))) (pss_one (ps_ret pe_bl)) pss_nil)
      (pss_cons (ps_if (pt_not (pt_val (pe_callB (cr_all rfl) (by rfl) z.all (by decide +kernel) (pa_cons (pe_lc (own := [("_law_k", 4)]) (g := gName 4) (tt := tYes) (te := (tOp (rI0 fun i j => V.bl (decide (i < j))) (tCB (fun xs H Q => ∃ i, xs = [V.int i] ∧ Q (.int (if i < 0 then -i else i)) H) (tCons (tOp (rIxT K) (tVar 4) (tC (.int 0))) tNil)) (tOp (rIxT K) (tVar 4) (tC (.int 1))))) (by rfl) sc__law_right.nd (pi_list (pe_ix ix_tup (pv 1) (pe_un un_neg pe_int) (fun _ _ => rfl))) (blkOk_by (own := [("_law_k", 4)]) (N := ["_law_bottom_here", "_law_told", "_law_rest", "_law_one_here", "_law_k"]) (sc := defScope s__law_right) (by decide +kernel)) (fun _ _ _ _ _ => by exact (pg_name (i := 4) sc__law_right.nd rfl (.inl rfl))) (fun _ _ _ _ _ => by exact pts_nil) (fun _ _ _ _ _ => by exact (pe_cmpR op_lt (pe_callB call_abs (by rfl) z.abs (by decide +kernel) (pa_cons (pe_ix ix_tup (pv 4) pe_int (fun _ _ => rfl)) pa_nil)) (pe_ix ix_tup (pv 4) pe_int (fun _ _ => rfl)) (nomark _)))) pa_nil)))) (pss_one (ps_ret pe_bl)) pss_nil)
      (pss_cons (ps_set (i := 2) sc__law_right.nd rfl (.inl rfl) (pe_lst (pa_cons (pe_tup (pa_cons pe_int (pa_cons pe_int pa_nil))) pa_nil)))
      (pss_cons (ps_if (pt_cmpR op_eq (pe_ix ix_tup (pv 1) pe_int (fun _ _ => rfl)) pe_str (nomark _)) (pss_cons (ps_set (i := 2) sc__law_right.nd rfl (.inl rfl) (pe_ix ix_tup (pv 1) pe_int (fun _ _ => rfl)))
      (pss_one (ps_if (PW.pt (pw_or (pt_cmpR op_lt (pe_callB call_len_seq (by rfl) z.len PySem.boot_len (pa_cons (pv 2) pa_nil)) pe_int (nomark _)) (pw_or (pt_cmpR (op_neD hr.units) (pe_ix ix_list (pv 2) pe_int (fun _ _ => rfl)) (pe_tup (pa_cons pe_int (pa_cons pe_int pa_nil))) (nomark _)) (pw_or1 (pt_cmpR op_lt (pe_callB call_abs (by rfl) z.abs (by decide +kernel) (pa_cons (pe_ix ix_tup (pe_ix ix_list (pv 2) (pe_un un_neg pe_int) (fun _ _ => rfl)) pe_int (fun _ _ => rfl)) pa_nil)) (pe_ix ix_tup (pe_ix ix_list (pv 2) (pe_un un_neg pe_int) (fun _ _ => rfl)) pe_int (fun _ _ => rfl)) (nomark _)))))) (pss_one (ps_ret pe_bl)) pss_nil))) pss_nil)
      (pss_one (ps_ret (pe_cmpR (op_eqD hr.units) (pe_cal c__law_raised hr (pa_cons (pv 2) (pa_cons (pe_ix ix_tup (pv 1) (pe_un un_neg pe_int) (fun _ _ => rfl)) pa_nil))) (pe_cal c__law_by_first hr (pa_cons (pv 0) pa_nil)) (nomark _))))))))), ?_⟩
    have ql : (qs.map fun q => q / fn qs 0).length ≤ 20 := by
      rw [List.length_map]
      exact l1
    obtain ⟨R, ks, hR0, fR, ik, LR⟩ := LR
    have kq : ∀ r : List Rat, raise r ks = (qs.map fun q => q / fn qs 0) → ks.length ≤ 20 := fun r e => by
      have := congrArg List.length e
      rw [raise_len] at this
      omega
    have kz : ∀ r, Fin_ r → raise r ks = (qs.map fun q => q / fn qs 0) → (∀ j, Szs (raise r (ks.take j))) := fun r hr e => lad_chain hr _ ks rfl ik (by rw [e]; exact lo)
    have kKs : ∀ r, Fin_ r → raise r ks = (qs.map fun q => q / fn qs 0) → ∀ k ∈ ks, Ks k := fun r hr e k hk => by
      obtain ⟨j, hj, rfl⟩ := List.getElem_of_mem hk
      have c := kz r hr e (j + 1)
      rw [List.take_succ, List.getElem?_eq_getElem hj, Option.toList_some, raise_snoc] at c
      have m : ks[j] ∈ raR ks[j] (raise r (ks.take j)) := by
        have e2 := raR_last ks[j] (raise r (ks.take j))
        rw [raise_first _ hr.pos, hr.first, Rat.mul_one] at e2
        have l2 : (raise r (ks.take j)).length < (raR ks[j] (raise r (ks.take j))).length := by
          rw [raR_len]
          omega
        rw [getD_at l2] at e2
        have mm := List.getElem_mem l2
        rw [e2] at mm
        exact mm
      have c2 := c _ m
      exact ⟨c2.1, Nat.lt_trans (ik _ hk).num c2.1⟩
    obtain ⟨eT, er⟩ | ⟨L, r, eT, hL0, nLR, fL, r2, fin, er⟩ := LR
    · have kl : ks.length ≤ 1000 := Nat.le_trans (kq _ er) (by decide)
      have kd : ∀ q ∈ ks, ((q.den : Int)).natAbs < 2 ^ 8500 := fun q hq => Nat.lt_trans (show ((q.den : Int)).natAbs < 2 ^ 1000 from (kKs _ (.inl rfl) er q hq).1) (Nat.pow_lt_pow_right (by decide) (by decide))
      refine ⟨_, rfl, _, .ty "tuple", _, _, true, rfl, .ty _, .base (.tup eT), kit_ty (by decide +kernel), _, rfl, iteF ?_⟩
      refine ⟨_, rfl, _, rfl, T, _, rfl, SqT.of eT, (fun z => absurd z (by show ¬ (HT.sIx 2 0 none = 0 ∧ HT.sIx 2 2 (some 1) = 2); decide)), fun _ u hu => ?_⟩
      generalize hU : upd _ u _ = G1
      have su : Same H G1 := by
        rw [← hU]
        exact same_new hu
      have gu : G1 u = some (.tup [.str "in"]) := by
        rw [← hU]
        exact upd_same
      clear hU
      refine ⟨(by show 1 ≤ sizeLine; decide), fun t1 h1 => ?_⟩
      generalize hU : upd _ t1 _ = G2
      have s1 : Same G1 G2 := by
        rw [← hU]
        exact same_new h1
      have g1 : G2 t1 = some (.tup [.str "in"]) := by
        rw [← hU]
        exact upd_same
      clear hU
      refine ⟨(by show 1 ≤ sizeLine; decide), fun t2 h2 => ?_⟩
      generalize hU : upd _ t2 _ = G3
      have s2 : Same G2 G3 := by
        rw [← hU]
        exact same_new h2
      have g2 : G3 t2 = some (.tup [.str "out"]) := by
        rw [← hU]
        exact upd_same
      clear hU
      refine ⟨(by show 2 ≤ sizeLine; decide), fun l hl => ?_⟩
      generalize hU : upd _ l _ = G4
      have s3 : Same G3 G4 := by
        rw [← hU]
        exact same_new hl
      have g3 : G4 l = some (.lst [.ref t1, .ref t2]) := by
        rw [← hU]
        exact upd_same
      clear hU
      have S4 := su.trans (s1.trans (s2.trans s3))
      have e4 := S4 _ _ eT
      refine ⟨.tuple [.str "in"], [.tuple [.str "in"], .tuple [.str "out"]], .tup (SqT.of ((s1.trans (s2.trans s3)) _ _ gu)) (.cons (.str _) .nil), .lst (SqL.of g3) (.cons (.tup (SqT.of ((s2.trans s3) _ _ g1)) (.cons (.str _) .nil)) (.cons (.tup (SqT.of (s3 _ _ g2)) (.cons (.str _) .nil)) .nil)), by decide +kernel, by decide +kernel, ?_⟩
      refine ⟨_, rfl, iteC (d := false) (by decide +kernel) (iteF ?_)⟩
      refine ⟨_, rfl, T, _, rfl, .inr (SqT.of e4), _, rfl, T, _, 0, .str "in", rfl, rfl, SqT.of e4, a0, rfl, .inr ⟨_, rfl, _, _, rfl, rfl, rfl, ?_⟩⟩
      refine ⟨_, rfl, iteC (d := false) rfl (iteF ?_)⟩
      have AL : ∀ x ∈ [V.ref R], ∃ (a : Addr) (qa : List Rat), x = V.ref a ∧ FrL H a qa ∧ qa.length ≤ 1000 ∧ ∀ q ∈ qa, ((q.den : Int)).natAbs < 2 ^ 8500 := fun x hx => by
        rw [List.mem_singleton.mp hx]
        exact ⟨R, ks, rfl, fR, kl, kd⟩
      refine ⟨_, rfl, _, rfl, T, _, rfl, SqT.of e4, (fun z => absurd z (by show ¬ (HT.sIx 2 0 (some 1) = 0 ∧ HT.sIx 2 2 none = 2); decide)), fun _ S hS => ?_⟩
      generalize hU : upd _ S _ = G5
      have s5 : Same G4 G5 := by
        rw [← hU]
        exact same_new hS
      have eS : G5 S = some (.tup [V.ref R]) := by
        rw [← hU]
        exact upd_same
      clear hU
      have S5 := S4.trans s5
      refine ⟨S, rfl, ⟨_, SqT.of eS⟩, fun D hD => lc_tup (K := K) (a := S) (xs := [V.ref R]) (fun i X => Same G5 X ∧ X D = some (.lst (List.replicate i (V.bl true)))) ⟨same_new hD, upd_same⟩ (fun i X _ hP => SqT.of (hP.1 _ _ eS)) (fun i x X hx hP => ?_) (fun X hP => ?_)⟩
      · obtain ⟨sX, hacc⟩ := hP
        obtain ⟨a', qa, rfl, fa, la, da⟩ := AL x (List.mem_of_getElem? hx)
        have hi := (List.getElem?_eq_some_iff.mp hx).1
        have hi : i < 2 := Nat.lt_of_lt_of_le hi (by show 1 ≤ 2; decide)
        have fa' := fa.same (S5.trans sX)
        obtain ⟨va, ea, lva, -⟩ := fa'.len
        refine ⟨rfl, _, rfl, _, .ty "list", _, _, true, rfl, .ty _, .base (.lst ea), kit_ty (by decide +kernel), _, rfl, iteT ⟨_, rfl, a', qa, rfl, fa', la, da, fun H2 s2 => ?_⟩⟩
        refine ⟨_, s2 _ _ hacc, ?_, fun b o e => ?_, ?_⟩
        · rw [List.length_replicate]
          exact small1000 (by omega)
        · rw [upd_ne (ne_of_none e hD)]
          exact s2 _ _ (sX _ _ e)
        · rw [upd_same, List.replicate_succ']
      obtain ⟨sX, hacc⟩ := hP
      refine ⟨D, List.replicate _ true, rfl, SqL.of (by rw [List.map_replicate]; exact hacc), ?_⟩
      rw [rep_all]
      have S6 := S5.trans sX
      have e6 := S6 _ _ eT
      obtain ⟨us, eR, lu, hu'⟩ := (fR.same S6).len
      refine ⟨_, rfl, iteF ?_⟩
      refine ⟨_, rfl, _, rfl, T, _, _, .ref R, rfl, rfl, SqT.of e6, atI_last [V.str "in"] _, R, rfl, ⟨_, SqL.of eR⟩, fun D2 hD2 => lc_list (K := K) (a := R) (xs := us) (fun i Y => Same X Y ∧ Y D2 = some (.lst (List.replicate i (V.bl true)))) ⟨same_new hD2, upd_same⟩ (fun i Y _ hP => SqL.of (hP.1 _ _ eR)) (fun i x Y hx hP => ?_) (fun Y hP => ?_)⟩
      · obtain ⟨sY, hac2⟩ := hP
        obtain ⟨p, k, rfl, hqk, hp⟩ := FrsAt.get hu' hx
        have kk := (ik k (List.mem_of_getElem? hqk)).num
        have li := (List.getElem?_eq_some_iff.mp hqk).1
        have hpY := sY _ _ hp
        refine ⟨rfl, _, rfl, p, _, 0, .int k.num, rfl, rfl, SqT.of hpY, a0, _, rfl, _, rfl, p, _, 1, .int k.den, rfl, rfl, SqT.of hpY, a1, _, _, rfl, rfl, _, hac2, ?_, fun b o e => ?_, ?_⟩
        · rw [List.length_replicate]
          exact small1000 (by omega)
        · rw [upd_ne (ne_of_none e hD2)]
          exact sY _ _ e
        · rw [upd_same, List.replicate_succ']
          show some (HO.lst (_ ++ [V.bl (decide ((if k.num < 0 then -k.num else k.num) < (k.den : Int)))])) = _
          rw [decide_eq_true (show (if k.num < 0 then -k.num else k.num) < (k.den : Int) by split <;> omega)]
      obtain ⟨sY, hac2⟩ := hP
      refine ⟨D2, List.replicate _ true, rfl, SqL.of (by rw [List.map_replicate]; exact hac2), ?_⟩
      rw [rep_all]
      refine ⟨_, rfl, iteF ?_⟩
      have S7 := S6.trans sY
      refine ⟨(by show 2 ≤ sizeLine; decide), fun o1 ho1 => ?_⟩
      generalize hU : upd _ o1 _ = Z1
      have z1 : Same Y Z1 := by
        rw [← hU]
        exact same_new ho1
      have fo : Fr Z1 o1 1 := by
        rw [← hU]
        exact upd_same
      clear hU
      refine ⟨(by show 1 ≤ sizeLine; decide), fun rq hrq => ?_⟩
      generalize hU : upd _ rq _ = Z2
      have z2 : Same Z1 Z2 := by
        rw [← hU]
        exact same_new hrq
      have fr1 : FrL Z2 rq [1] := by
        rw [← hU]
        exact ⟨_, upd_same, FrsAt.one (fo.same (same_new hrq))⟩
      clear hU
      have S8 := S7.trans (z1.trans z2)
      have e8 := S8 _ _ eT
      refine ⟨_, rfl, T, _, 0, .str "in", rfl, rfl, SqT.of e8, a0, rfl, ?_⟩
      refine ⟨_, rfl, iteC (d := false) rfl (iteF ?_)⟩
      refine ⟨_, rfl, _, rfl, _, rfl, T, _, _, .ref R, rfl, rfl, SqT.of (S8 _ _ eT), atI_last [V.str "in"] _, rq, R, [1], ks, rfl, fr1, fR.same S8, (by show 1 ≤ 20; decide), Nat.le_trans (kq _ er) (by decide), kKs _ (.inl rfl) er, kz _ (.inl rfl) er, fun p1 J1 hp1 j1 f1 => ?_⟩
      have U1 := S8.trans j1
      refine ⟨_, rfl, b, qs, rfl, hq.same U1, l0, l1, q0, sz, fun p2 J2 hp2 j2 f2 => ?_⟩
      obtain ⟨w1, x1, -, y1⟩ := (f1.same j2).len
      obtain ⟨w2, x2, -, y2⟩ := f2.len
      rw [er] at y1
      refine ⟨_, _, .lst (SqL.of x1) (FrsAt.dp y1), .lst (SqL.of x2) (FrsAt.dp y2), frL_shaped _, frL_shaped _, ?_⟩
      rw [frL_eqv, decide_eq_true rfl]
      exact q _ (U1.trans j2)
    · have kl : ks.length ≤ 1000 := Nat.le_trans (kq _ er) (by decide)
      have kd : ∀ q ∈ ks, ((q.den : Int)).natAbs < 2 ^ 8500 := fun q hq => Nat.lt_trans (show ((q.den : Int)).natAbs < 2 ^ 1000 from (kKs _ fin er q hq).1) (Nat.pow_lt_pow_right (by decide) (by decide))
      have rl : r.length ≤ 1000 := by
        have := congrArg List.length er
        rw [raise_len] at this
        omega
      have rd : ∀ q ∈ r, ((q.den : Int)).natAbs < 2 ^ 8500 := fun q hq => Nat.lt_trans (show ((q.den : Int)).natAbs < 2 ^ 1000 from (kz r fin er 0 q hq).1) (Nat.pow_lt_pow_right (by decide) (by decide))
      refine ⟨_, rfl, _, .ty "tuple", _, _, true, rfl, .ty _, .base (.tup eT), kit_ty (by decide +kernel), _, rfl, iteF ?_⟩
      refine ⟨_, rfl, _, rfl, T, _, rfl, SqT.of eT, (fun z => absurd z (by show ¬ (HT.sIx 3 0 none = 0 ∧ HT.sIx 3 3 (some 1) = 3); decide)), fun _ u hu => ?_⟩
      generalize hU : upd _ u _ = G1
      have su : Same H G1 := by
        rw [← hU]
        exact same_new hu
      have gu : G1 u = some (.tup [.str "out"]) := by
        rw [← hU]
        exact upd_same
      clear hU
      refine ⟨(by show 1 ≤ sizeLine; decide), fun t1 h1 => ?_⟩
      generalize hU : upd _ t1 _ = G2
      have s1 : Same G1 G2 := by
        rw [← hU]
        exact same_new h1
      have g1 : G2 t1 = some (.tup [.str "in"]) := by
        rw [← hU]
        exact upd_same
      clear hU
      refine ⟨(by show 1 ≤ sizeLine; decide), fun t2 h2 => ?_⟩
      generalize hU : upd _ t2 _ = G3
      have s2 : Same G2 G3 := by
        rw [← hU]
        exact same_new h2
      have g2 : G3 t2 = some (.tup [.str "out"]) := by
        rw [← hU]
        exact upd_same
      clear hU
      refine ⟨(by show 2 ≤ sizeLine; decide), fun l hl => ?_⟩
      generalize hU : upd _ l _ = G4
      have s3 : Same G3 G4 := by
        rw [← hU]
        exact same_new hl
      have g3 : G4 l = some (.lst [.ref t1, .ref t2]) := by
        rw [← hU]
        exact upd_same
      clear hU
      have S4 := su.trans (s1.trans (s2.trans s3))
      have e4 := S4 _ _ eT
      refine ⟨.tuple [.str "out"], [.tuple [.str "in"], .tuple [.str "out"]], .tup (SqT.of ((s1.trans (s2.trans s3)) _ _ gu)) (.cons (.str _) .nil), .lst (SqL.of g3) (.cons (.tup (SqT.of ((s2.trans s3) _ _ g1)) (.cons (.str _) .nil)) (.cons (.tup (SqT.of (s3 _ _ g2)) (.cons (.str _) .nil)) .nil)), by decide +kernel, by decide +kernel, ?_⟩
      refine ⟨_, rfl, iteC (d := false) (by decide +kernel) (iteF ?_)⟩
      refine ⟨_, rfl, T, _, rfl, .inr (SqT.of e4), _, rfl, T, _, 0, .str "out", rfl, rfl, SqT.of e4, a0, rfl, .inr ⟨_, rfl, _, _, rfl, rfl, rfl, ?_⟩⟩
      refine ⟨_, rfl, iteC (d := false) rfl (iteF ?_)⟩
      have AL : ∀ x ∈ [V.ref L, V.ref R], ∃ (a : Addr) (qa : List Rat), x = V.ref a ∧ FrL H a qa ∧ qa.length ≤ 1000 ∧ ∀ q ∈ qa, ((q.den : Int)).natAbs < 2 ^ 8500 := fun x hx => by
        rcases List.mem_cons.mp hx with rfl | hx
        · exact ⟨L, r, rfl, fL, rl, rd⟩
        · rw [List.mem_singleton.mp hx]
          exact ⟨R, ks, rfl, fR, kl, kd⟩
      refine ⟨_, rfl, _, rfl, T, _, rfl, SqT.of e4, (fun z => absurd z (by show ¬ (HT.sIx 3 0 (some 1) = 0 ∧ HT.sIx 3 3 none = 3); decide)), fun _ S hS => ?_⟩
      generalize hU : upd _ S _ = G5
      have s5 : Same G4 G5 := by
        rw [← hU]
        exact same_new hS
      have eS : G5 S = some (.tup [V.ref L, V.ref R]) := by
        rw [← hU]
        exact upd_same
      clear hU
      have S5 := S4.trans s5
      refine ⟨S, rfl, ⟨_, SqT.of eS⟩, fun D hD => lc_tup (K := K) (a := S) (xs := [V.ref L, V.ref R]) (fun i X => Same G5 X ∧ X D = some (.lst (List.replicate i (V.bl true)))) ⟨same_new hD, upd_same⟩ (fun i X _ hP => SqT.of (hP.1 _ _ eS)) (fun i x X hx hP => ?_) (fun X hP => ?_)⟩
      · obtain ⟨sX, hacc⟩ := hP
        obtain ⟨a', qa, rfl, fa, la, da⟩ := AL x (List.mem_of_getElem? hx)
        have hi := (List.getElem?_eq_some_iff.mp hx).1
        have hi : i < 3 := Nat.lt_of_lt_of_le hi (by show 2 ≤ 3; decide)
        have fa' := fa.same (S5.trans sX)
        obtain ⟨va, ea, lva, -⟩ := fa'.len
        refine ⟨rfl, _, rfl, _, .ty "list", _, _, true, rfl, .ty _, .base (.lst ea), kit_ty (by decide +kernel), _, rfl, iteT ⟨_, rfl, a', qa, rfl, fa', la, da, fun H2 s2 => ?_⟩⟩
        refine ⟨_, s2 _ _ hacc, ?_, fun b o e => ?_, ?_⟩
        · rw [List.length_replicate]
          exact small1000 (by omega)
        · rw [upd_ne (ne_of_none e hD)]
          exact s2 _ _ (sX _ _ e)
        · rw [upd_same, List.replicate_succ']
      obtain ⟨sX, hacc⟩ := hP
      refine ⟨D, List.replicate _ true, rfl, SqL.of (by rw [List.map_replicate]; exact hacc), ?_⟩
      rw [rep_all]
      have S6 := S5.trans sX
      have e6 := S6 _ _ eT
      obtain ⟨us, eR, lu, hu'⟩ := (fR.same S6).len
      refine ⟨_, rfl, iteF ?_⟩
      refine ⟨_, rfl, _, rfl, T, _, _, .ref R, rfl, rfl, SqT.of e6, atI_last [V.str "out", V.ref L] _, R, rfl, ⟨_, SqL.of eR⟩, fun D2 hD2 => lc_list (K := K) (a := R) (xs := us) (fun i Y => Same X Y ∧ Y D2 = some (.lst (List.replicate i (V.bl true)))) ⟨same_new hD2, upd_same⟩ (fun i Y _ hP => SqL.of (hP.1 _ _ eR)) (fun i x Y hx hP => ?_) (fun Y hP => ?_)⟩
      · obtain ⟨sY, hac2⟩ := hP
        obtain ⟨p, k, rfl, hqk, hp⟩ := FrsAt.get hu' hx
        have kk := (ik k (List.mem_of_getElem? hqk)).num
        have li := (List.getElem?_eq_some_iff.mp hqk).1
        have hpY := sY _ _ hp
        refine ⟨rfl, _, rfl, p, _, 0, .int k.num, rfl, rfl, SqT.of hpY, a0, _, rfl, _, rfl, p, _, 1, .int k.den, rfl, rfl, SqT.of hpY, a1, _, _, rfl, rfl, _, hac2, ?_, fun b o e => ?_, ?_⟩
        · rw [List.length_replicate]
          exact small1000 (by omega)
        · rw [upd_ne (ne_of_none e hD2)]
          exact sY _ _ e
        · rw [upd_same, List.replicate_succ']
          show some (HO.lst (_ ++ [V.bl (decide ((if k.num < 0 then -k.num else k.num) < (k.den : Int)))])) = _
          rw [decide_eq_true (show (if k.num < 0 then -k.num else k.num) < (k.den : Int) by split <;> omega)]
      obtain ⟨sY, hac2⟩ := hP
      refine ⟨D2, List.replicate _ true, rfl, SqL.of (by rw [List.map_replicate]; exact hac2), ?_⟩
      rw [rep_all]
      refine ⟨_, rfl, iteF ?_⟩
      have S7 := S6.trans sY
      refine ⟨(by show 2 ≤ sizeLine; decide), fun o1 ho1 => ?_⟩
      generalize hU : upd _ o1 _ = Z1
      have z1 : Same Y Z1 := by
        rw [← hU]
        exact same_new ho1
      have fo : Fr Z1 o1 1 := by
        rw [← hU]
        exact upd_same
      clear hU
      refine ⟨(by show 1 ≤ sizeLine; decide), fun rq hrq => ?_⟩
      generalize hU : upd _ rq _ = Z2
      have z2 : Same Z1 Z2 := by
        rw [← hU]
        exact same_new hrq
      have fr1 : FrL Z2 rq [1] := by
        rw [← hU]
        exact ⟨_, upd_same, FrsAt.one (fo.same (same_new hrq))⟩
      clear hU
      have S8 := S7.trans (z1.trans z2)
      have e8 := S8 _ _ eT
      refine ⟨_, rfl, T, _, 0, .str "out", rfl, rfl, SqT.of e8, a0, rfl, ?_⟩
      refine ⟨_, rfl, iteC (d := true) rfl (iteT ?_)⟩
      obtain ⟨vl, eL, lvl, hvl⟩ := (fL.same S8).len
      refine ⟨_, rfl, T, _, 1, .ref L, rfl, rfl, SqT.of e8, a1, ?_⟩
      obtain ⟨p0, a0', hp0⟩ := FrsAt.fn hvl (show 0 < r.length by omega)
      have f0 : E1.fn r 0 = 1 := fin.first
      refine ⟨_, rfl, L, _, rfl, .inl (SqL.of eL), _, _, rfl, rfl, _, rfl, iteC (d := false) (decide_eq_false (by omega)) (iteF ?_)⟩
      refine ⟨_, rfl, L, _, 0, .ref p0, rfl, rfl, SqL.of eL, atI_nat (j := 0) a0', (by show 2 ≤ sizeLine; decide), fun w1 hw1 => ?_⟩
      generalize hU : upd _ w1 _ = Z3
      have z3 : Same Z2 Z3 := by
        rw [← hU]
        exact same_new hw1
      have gw : Z3 w1 = some (.tup [.int 1, .int 1]) := by
        rw [← hU]
        exact upd_same
      clear hU
      have S9 := S8.trans z3
      refine ⟨frD (E1.fn r 0), frD 1, Fr.dp (z3 _ _ hp0), .tup (SqT.of gw) (.cons (.int _) (.cons (.int _) .nil)), frD_shaped _, frD_shaped _, ?_⟩
      refine ⟨_, rfl, iteC (d := false) (by rw [frD_eqv, f0]; rfl) (iteF ?_)⟩
      have eL9 := z3 _ _ eL
      have hv9 := PrsAt.same hvl z3
      obtain ⟨vt, v, rfl⟩ : ∃ vt v, vl = vt ++ [v] := by
        rcases List.eq_nil_or_concat vl with rfl | ⟨vt, v, rfl⟩
        · have : r.length = 0 := lvl.symm
          omega
        · exact ⟨vt, v, List.concat_eq_append⟩
      have lt2 : vt.length = r.length - 1 := by
        rw [List.length_append, List.length_singleton] at lvl
        omega
      obtain ⟨pl, x, rfl, hqx, hpx⟩ := FrsAt.get (i := vt.length) (v := v) hv9 (by rw [List.getElem?_append_right (Nat.le_refl _), Nat.sub_self]; rfl)
      have nx : ¬ Ins x := by
        rcases fin with rfl | ⟨_, _, h⟩
        · exact absurd r2 (by decide)
        · rw [← lt2, List.getD_eq_getElem?_getD, hqx] at h
          exact h
      have nn : ¬ (if x.num < 0 then -x.num else x.num) < (x.den : Int) := fun z => nx (Ins.of (by split at z <;> omega))
      refine ⟨_, rfl, _, rfl, L, _, _, .ref pl, rfl, rfl, SqL.of eL9, atI_last _ _, pl, _, 0, .int x.num, rfl, rfl, SqT.of hpx, a0, _, rfl, _, rfl, _, rfl, L, _, _, .ref pl, rfl, rfl, SqL.of eL9, atI_last _ _, pl, _, 1, .int x.den, rfl, rfl, SqT.of hpx, a1, _, _, rfl, rfl, _, rfl, iteC (d := false) (decide_eq_false nn) (iteF ?_)⟩
      refine ⟨_, rfl, _, rfl, _, rfl, T, _, _, .ref R, rfl, rfl, SqT.of (S9 _ _ eT), atI_last [V.str "out", V.ref L] _, L, R, r, ks, rfl, fL.same S9, fR.same S9, (by have := congrArg List.length er; rw [raise_len] at this; have := ql; omega), Nat.le_trans (kq _ er) (by decide), kKs _ fin er, kz _ fin er, fun p1 J1 hp1 j1 f1 => ?_⟩
      have U1 := S9.trans j1
      refine ⟨_, rfl, b, qs, rfl, hq.same U1, l0, l1, q0, sz, fun p2 J2 hp2 j2 f2 => ?_⟩
      obtain ⟨w1, x1, -, y1⟩ := (f1.same j2).len
      obtain ⟨w2, x2, -, y2⟩ := f2.len
      rw [er] at y1
      refine ⟨_, _, .lst (SqL.of x1) (FrsAt.dp y1), .lst (SqL.of x2) (FrsAt.dp y2), frL_shaped _, frL_shaped _, ?_⟩
      rw [frL_eqv, decide_eq_true rfl]
      exact q _ (U1.trans j2)
end
end E1

namespace E1
open PySem PySem.Spec PyProof.Rows L2

/-- what a ladder is, as told or due -/
def LadD (H : Hp) (T : Addr) (a : List Rat) : Prop := ∃ (R : Addr) (ks : List Rat), FrL H R ks ∧ (∀ k ∈ ks, Ins k) ∧ ((H T = some (.tup [.str "in", .ref R]) ∧ raise [1] ks = a) ∨ ∃ (L : Addr) (r : List Rat), H T = some (.tup [.str "out", .ref L, .ref R]) ∧ FrL H L r ∧ 2 ≤ r.length ∧ Fin_ r ∧ raise r ks = a)
theorem LadR.d {H0 H : Hp} {T : Addr} {a : List Rat} (h : LadR H0 H T a) : LadD H T a := by
  obtain ⟨R, ks, -, fR, ik, h⟩ := h
  refine ⟨R, ks, fR, ik, ?_⟩
  rcases h with h | ⟨L, r, e, -, -, f1, l2, f, er⟩
  · exact .inl h
  · exact .inr ⟨L, r, e, f1, l2, f, er⟩
theorem LadD.same {H H' : Hp} {T : Addr} {a : List Rat} (h : LadD H T a) (s : Same H H') : LadD H' T a := by
  obtain ⟨R, ks, fR, ik, h⟩ := h
  refine ⟨R, ks, fR.same s, ik, ?_⟩
  rcases h with ⟨e, er⟩ | ⟨L, r, e, f1, l2, f, er⟩
  · exact .inl ⟨s _ _ e, er⟩
  · exact .inr ⟨L, r, s _ _ e, f1.same s, l2, f, er⟩
theorem cut4 (xs : List V) : cutV xs none (some 4) = xs.take 4 := by
  unfold cutV
  have e1 : HT.sIx xs.length 0 none = 0 := rfl
  have e2 : HT.sIx xs.length xs.length (some 4) = min 4 xs.length := HT.sIx_nat _ _ 4
  rw [e1, e2, List.drop_zero, Nat.sub_zero]
  by_cases c : 4 ≤ xs.length
  · rw [Nat.min_eq_left c]
  · rw [Nat.min_eq_right (by omega), List.take_length, List.take_of_length_le (by omega)]
def ladDat (r ks : List Rat) : PyData := if r.length = 1 then .tuple [.str "in", .list (ks.map frD)] else .tuple [.str "out", .list (r.map frD), .list (ks.map frD)]
theorem FrL.dp {K : PySem.W.Frag} {H : Hp} {a : Addr} {qs : List Rat} (h : FrL H a qs) : Dp K H (.ref a) (.list (qs.map frD)) := by
  obtain ⟨vs, e, r⟩ := h
  exact .lst (SqL.of e) (FrsAt.dp r)
theorem LadD.dp {K : PySem.W.Frag} {H : Hp} {T : Addr} {a : List Rat} (h : LadD H T a) : ∃ r ks, Fin_ r ∧ (∀ k ∈ ks, Ins k) ∧ raise r ks = a ∧ Dp K H (.ref T) (ladDat r ks) := by
  obtain ⟨R, ks, fR, ik, ⟨e, er⟩ | ⟨L, r, e, f1, l2, f, er⟩⟩ := h
  · exact ⟨[1], ks, .inl rfl, ik, er, .tup (SqT.of e) (.cons (.str _) (.cons fR.dp .nil))⟩
  · refine ⟨r, ks, f, ik, er, ?_⟩
    unfold ladDat
    rw [if_neg (by omega)]
    exact .tup (SqT.of e) (.cons (.str _) (.cons f1.dp (.cons fR.dp .nil)))
theorem ladDat_shaped (r ks : List Rat) : SeqAt.shaped (ladDat r ks) = true := by
  have si : PyData.strOk "in" = true := by decide +kernel
  have so : PyData.strOk "out" = true := by decide +kernel
  have d1 := frDs_deep r
  have d2 := frDs_deep ks
  have l1 := frDs_lay r
  have l2 := frDs_lay ks
  unfold ladDat SeqAt.shaped
  split
  · rw [Bool.and_eq_true]
    refine ⟨by simp only [PyData.canLay0, PyData.canLayAll0, si, l2, Bool.and_true], decide_eq_true ?_⟩
    simp only [PyData.depth, PyData.depthAll]
    omega
  · rw [Bool.and_eq_true]
    refine ⟨by simp only [PyData.canLay0, PyData.canLayAll0, so, l1, l2, Bool.and_true], decide_eq_true ?_⟩
    simp only [PyData.depth, PyData.depthAll]
    omega
/-- two ladders of one list are one -/
theorem LadD.one {K : PySem.W.Frag} {H : Hp} {T T' : Addr} {a : List Rat} (h : LadD H T a) (g : LadD H T' a) : ∃ d, Dp K H (.ref T) d ∧ Dp K H (.ref T') d ∧ SeqAt.shaped d = true ∧ PyData.eqv d d = true := by
  obtain ⟨r, ks, f, ik, er, dp⟩ := h.dp (K := K)
  obtain ⟨r', ks', f', ik', er', dp'⟩ := g.dp (K := K)
  obtain ⟨rfl, rfl⟩ := raise_one f f' _ ks ks' rfl ik ik' (er.trans er'.symm)
  exact ⟨_, dp, dp', ladDat_shaped r ks, SeqAt.eqv_refl _ (SeqAt.canLay_of_shaped (ladDat_shaped r ks))⟩
/-- a bottom whose ladder is told -/
structure BotOk (qs : List Rat) : Prop where
  l0 : 0 < qs.length
  l1 : qs.length ≤ 20
  f0 : fn qs 0 ≠ 0
  sz : ∀ q ∈ qs, q.den < 2 ^ 2000 ∧ q.num.natAbs < 2 ^ 2000
  bt : ∃ D, Btm D (qs.map pr)
  lo : LadOk (qs.map fun q => q / fn qs 0)
theorem BotOk.of {qs a : List Rat} {D : Int} {B : Nat} (l0 : 0 < qs.length) (l1 : qs.length ≤ 20) (f0 : fn qs 0 ≠ 0) (hD : D ≠ 0) (dl : D.natAbs < 2 ^ 1000) (bl : B < 2 ^ 1000) (hs : ∀ q ∈ qs, Sc D B q) (lo : LadOk (qs.map fun q => q / fn qs 0)) : BotOk qs := by
  have key : ∀ q ∈ qs, (q.den : Int) ∣ D ∧ q.num.natAbs ≤ B := fun q hq => ⟨(hs q hq).den, (hs q hq).num hD⟩
  refine ⟨l0, l1, f0, fun q hq => ?_, ⟨D, hD, up dl (by decide), fun p hp => ?_⟩, lo⟩
  · obtain ⟨k1, k2⟩ := key q hq
    have := Nat.le_of_dvd (by omega) (Int.natAbs_dvd_natAbs.mpr k1)
    have e := Nat.pow_lt_pow_right (a := 2) (by decide) (show 1000 < 2000 by decide)
    exact ⟨by omega, by omega⟩
  · obtain ⟨q, hq, rfl⟩ := List.mem_map.mp hp
    obtain ⟨k1, k2⟩ := key q hq
    exact ⟨den_ge q, k1, up (Nat.lt_of_le_of_lt k2 bl) (by decide)⟩
def DueOk (H : Hp) (d : V) (qs : List Rat) : Prop := d = .non ∨ ∃ T, d = .ref T ∧ LadD H T (qs.map fun q => q / fn qs 0)
def spBottom : Sp := fun vs H Q _ => ∃ (w : Addr) (c way : Int), vs = [.ref w, .int way] ∧ WellAt H w c ∧ c ≤ 100000 ∧ ∀ (T bl : Addr) (d : V) (qs : List Rat) H', SameBut w H H' → WellAt H' w (c + 1000) → H' T = some (.tup [.ref bl, d]) → FrL H' bl qs → BotOk qs → DueOk H' d qs → Q (.ref T) H'
/-- a drawn place -/
def Pl (q : Rat) : Prop := ∃ t b : Int, q = Rat.divInt t b ∧ 1 ≤ b ∧ b ≤ 99 ∧ t.natAbs ≤ 1000000000
theorem pls_sc : ∀ ps : List Rat, (∀ q ∈ ps, Pl q) → ∃ D : Int, 0 < D ∧ D.natAbs ≤ 99 ^ ps.length ∧ ∀ q ∈ ps, Sc D (1000000000 * D.natAbs) q
  | [], _ => ⟨1, by decide, Nat.le_refl _, fun q h => absurd h List.not_mem_nil⟩
  | q :: ps, h => by
    obtain ⟨D, D0, Dl, hs⟩ := pls_sc ps fun x hx => h x (List.mem_cons_of_mem _ hx)
    obtain ⟨t, b, rfl, b1, b2, tl⟩ := h q List.mem_cons_self
    refine ⟨D * b, Int.mul_pos D0 (by omega), ?_, fun x hx => ?_⟩
    · rw [Int.natAbs_mul, List.length_cons, Nat.pow_succ]
      exact Nat.mul_le_mul Dl (by omega)
    · rcases List.mem_cons.mp hx with rfl | hx
      · have s : Sc b 1000000000 (Rat.divInt t b) := ⟨t, div_q (by omega), tl⟩
        have := s.scale (k := D)
        rw [Int.mul_comm b D] at this
        refine this.mono ?_
        rw [Int.natAbs_mul]
        exact Nat.mul_le_mul_left _ (Nat.le_mul_of_pos_right _ (by omega))
      · have := (hs x hx).scale (k := b)
        refine this.mono ?_
        rw [Int.natAbs_mul, Nat.mul_assoc]
        exact Nat.le_refl _
/-- a drawn bottom -/
theorem drawn_ok {f : Rat} {ps : List Rat} (f0 : f ≠ 0) (fn_ : f.num.natAbs ≤ 5) (fd : f.den ≤ 2) (hp : ∀ q ∈ ps, Pl q) (l : ps.length ≤ 4) : BotOk (f :: ps) := by
  obtain ⟨D, D0, Dl, hs⟩ := pls_sc ps hp
  have D4 : D.natAbs ≤ 99 ^ 4 := Nat.le_trans Dl (Nat.pow_le_pow_right (by decide) l)
  have d4 : (99 : Nat) ^ 4 < 2 ^ 27 := by decide
  have nz := num_ne f0
  have inv : Sc f.num f.den (1 / f) := by
    refine ⟨(f.den : Int), ?_, by omega⟩
    have e := q_eq f
    have i1 : (1 / f) * f = 1 := by rw [Rat.div_def, Rat.mul_assoc, Rat.inv_mul_cancel _ f0, Rat.mul_one]
    rw [← e, ← Rat.mul_assoc, i1, Rat.one_mul]
  have q1 : ∀ q, q / f = q * (1 / f) := fun q => by rw [Rat.div_def, Rat.div_def, Rat.one_mul]
  have Dm : D * f.num ≠ 0 := Int.mul_ne_zero (by omega) nz
  have Dml : (D * f.num).natAbs < 2 ^ 60 := by
    rw [Int.natAbs_mul]
    have : D.natAbs * f.num.natAbs ≤ 99 ^ 4 * 5 := Nat.mul_le_mul D4 fn_
    exact Nat.lt_of_le_of_lt this (by decide)
  have one : f / f = 1 := div_of f0 (by rw [Rat.one_mul])
  have lo : LadOk ((f :: ps).map fun q => q / f) := by
    refine ladNaive ((f :: ps).map fun q => q / f).length 60 100 _ (D * f.num) (1000000000 * D.natAbs * f.den + (D * f.num).natAbs) rfl ?_ one Dm Dml ?_ (fun x hx => ?_) ?_ ?_
    · rw [List.length_map, List.length_cons]
      omega
    · have : 1000000000 * D.natAbs * f.den ≤ 1000000000 * 99 ^ 4 * 2 := Nat.mul_le_mul (Nat.mul_le_mul_left _ D4) fd
      have e1 : (1000000000 * 99 ^ 4 * 2 : Nat) < 2 ^ 60 := by decide
      have e2 : (2 : Nat) ^ 60 + 2 ^ 60 < 2 ^ 100 := by decide
      omega
    · obtain ⟨q, hq, rfl⟩ := List.mem_map.mp hx
      show Sc _ _ (q / f)
      rcases List.mem_cons.mp hq with rfl | hq
      · rw [one]
        exact ⟨D * q.num, by rw [Rat.one_mul], by omega⟩
      · rw [q1]
        exact ((hs q hq).mul inv).mono (by omega)
    · rw [List.length_map, List.length_cons]
      have : 2 ^ (ps.length + 1) ≤ 2 ^ 5 := Nat.pow_le_pow_right (by decide) (by omega)
      omega
    · rw [List.length_map, List.length_cons]
      have : 2 ^ (ps.length + 1) ≤ 2 ^ 5 := Nat.pow_le_pow_right (by decide) (by omega)
      omega
  have sf : Sc f.den 5 f := ⟨f.num, q_eq f, fn_⟩
  refine BotOk.of (a := []) (D := D * f.den) (B := 1000000000 * D.natAbs * 2 + 5 * D.natAbs) (Nat.succ_pos _) ?_ f0 (Int.mul_ne_zero (by omega) (den_ne f)) ?_ ?_ (fun q hq => ?_) lo
  · rw [List.length_cons]
    omega
  · rw [Int.natAbs_mul]
    have : D.natAbs * ((f.den : Int)).natAbs ≤ 99 ^ 4 * 2 := Nat.mul_le_mul D4 (by omega)
    exact Nat.lt_of_le_of_lt this (Nat.lt_of_lt_of_le (show 99 ^ 4 * 2 < 2 ^ 30 by decide) (Nat.pow_le_pow_right (by decide) (by decide)))
  · have : (1000000000 * D.natAbs * 2 + 5 * D.natAbs : Nat) ≤ 1000000000 * 99 ^ 4 * 2 + 5 * 99 ^ 4 := by omega
    exact Nat.lt_of_le_of_lt this (Nat.lt_of_lt_of_le (show 1000000000 * 99 ^ 4 * 2 + 5 * 99 ^ 4 < 2 ^ 70 by decide) (Nat.pow_le_pow_right (by decide) (by decide)))
  · rcases List.mem_cons.mp hq with rfl | hq
    · have := sf.scale (k := D)
      rw [Int.mul_comm (q.den : Int) D] at this
      exact this.mono (by omega)
    · have := (hs q hq).scale (k := (f.den : Int))
      refine this.mono ?_
      have : 1000000000 * D.natAbs * ((f.den : Int)).natAbs ≤ 1000000000 * D.natAbs * 2 := Nat.mul_le_mul_left _ (by omega)
      omega
/-- a raised bottom -/
theorem raised_ok {r ks : List Rat} {y : Rat} (hr : Fin_ r) (rl : r.length ≤ 4) (hs : ∀ x ∈ r, Sc 6000000 100000000 x) (hk : ∀ k ∈ ks, Rg k) (kl : ks.length ≤ 6) (y0 : y ≠ 0) (sy : Sc 21 21000000000 y) :
    BotOk ((raise r ks).map fun x => x * y) ∧ ((raise r ks).map fun x => x * y).map (fun q => q / fn ((raise r ks).map fun x => x * y) 0) = raise r ks ∧ LadOk (raise r ks) := by
  obtain ⟨lo, D, B, D0, dl, bl, h⟩ := ladRaised hr (D := 6000000) (B := 100000000) (by decide) (Nat.lt_of_lt_of_le (show 6000000 < 2 ^ 23 by decide) (Nat.pow_le_pow_right (by decide) (by decide))) (Nat.lt_of_lt_of_le (show 100000000 < 2 ^ 27 by decide) (Nat.pow_le_pow_right (by decide) (by decide))) hs _ ks rfl (by omega) hk
  have L := raise_len r ks
  have p := hr.pos
  have e1 := raise_first r p ks
  rw [hr.first] at e1
  have hl : 0 < ((raise r ks).map fun x => x * y).length := by
    rw [List.length_map]
    omega
  have f1 : fn ((raise r ks).map fun x => x * y) 0 = y := by
    show ((raise r ks).map fun x => x * y).getD 0 0 = y
    rw [getD_at hl, List.getElem_map]
    rw [getD_at (by omega)] at e1
    rw [e1, Rat.one_mul]
  have e2 : ((raise r ks).map fun x => x * y).map (fun q => q / fn ((raise r ks).map fun x => x * y) 0) = raise r ks := by
    rw [f1, List.map_map]
    have : (raise r ks).map (fun x => x) = raise r ks := List.map_id' _
    conv => rhs; rw [← this]
    apply List.map_congr_left
    intro x _
    exact div_self_ y0
  refine ⟨BotOk.of (a := []) (D := D * 21) (B := B * 21000000000) hl (by rw [List.length_map]; omega) (by rw [f1]; exact y0) (Int.mul_ne_zero D0 (by decide)) ?_ ?_ (fun q hq => ?_) (by rw [e2]; exact lo), e2, lo⟩
  · rw [Int.natAbs_mul]
    have := Nat.mul_lt_mul'' dl (show (21 : Int).natAbs < 2 ^ 5 by decide)
    rw [← Nat.pow_add] at this
    exact Nat.lt_of_lt_of_le this (Nat.pow_le_pow_right (by decide) (by omega))
  · have := Nat.mul_lt_mul'' bl (show 21000000000 < 2 ^ 35 by decide)
    rw [← Nat.pow_add] at this
    exact Nat.lt_of_lt_of_le this (Nat.pow_le_pow_right (by decide) (by omega))
  · obtain ⟨x, hx, rfl⟩ := List.mem_map.mp hq
    exact (h x hx).mul sy

end E1

namespace E1
open PySem PySem.Spec PyProof.Rows L2
section
variable {P : Program} {w : World} {K : PySem.W.Frag} {mg : Str → Option Value} {base : Heap}
theorem sc__law_bottom : FnScope ["_law_well_here", "_law_way", "_law_kind", "_law_first", "_law_places", "_law_ks", "_law_rest", "_law_due", "_law_by", "_law_k", "_law_one_here"] ["_law_well_here", "_law_way"] (defScope s__law_bottom) := ⟨rfl, rfl, rfl, by decide +kernel, rfl, by decide +kernel, by decide +kernel⟩
theorem ok__law_bottom {f : Addr} {fd : FuncData} (F : Fun K "_law_bottom" "_law_bottom" s__law_bottom f fd) (z : Zs mg) (c__law_draw : Cal P w K mg base 1 "_law_draw" ["_law_well_here", "_law_many"] spDraw) (c__law_one : Cal P w K mg base 2 "_law_one" ["_law_well_here", "_law_some"] spOne) (c__law_place : Cal P w K mg base 2 "_law_place" ["_law_well_here", "_law_kind"] spPlace) (c__law_rung : Cal P w K mg base 3 "_law_rung" ["_law_well_here"] spRung) (c__law_left : Cal P w K mg base 3 "_law_left" ["_law_well_here"] spLeft) (c__law_raised : Cal P w K mg base 3 "_law_raised" ["_law_rest", "_law_ks"] spLRais) (c__law_low : Cal P w K mg base 1 "_law_low" ["_law_top", "_law_bottom_here"] spLowP) : FnOk P w K mg base CX0 4 f fd ["_law_well_here", "_law_way"] spBottom := by
  refine F.ok sc__law_bottom (fun vs H Q E h => ?_) (fun cdv A outer s H vs Q E hr h => ?_)
  · obtain ⟨ww, c, way, rfl, _⟩ := h
    rfl
  · obtain ⟨ww, c, way, rfl, hw, hc, q⟩ := h
    refine ⟨_, (pss_cons (ps_if (pt_cmpR op_gt (pv 1) pe_int (nomark _)) (pss_cons (ps_set (i := 2) sc__law_bottom.nd rfl (.inr rfl) (pe_op op_fdiv (pe_cal c__law_draw hr (pa_cons (pv 0) (pa_cons pe_int pa_nil))) pe_int))
      (pss_cons (ps_set (i := 3) sc__law_bottom.nd rfl (.inl rfl) (pe_cal c__law_one hr (pa_cons (pv 0) (pa_cons (pe_lst (pa_cons (pe_tup (pa_cons pe_int (pa_cons pe_int pa_nil))) (pa_cons (pe_tup (pa_cons (pe_un un_neg pe_int) (pa_cons pe_int pa_nil))) (pa_cons (pe_tup (pa_cons pe_int (pa_cons pe_int pa_nil))) (pa_cons (pe_tup (pa_cons pe_int (pa_cons pe_int pa_nil))) pa_nil))))) pa_nil))))
      (pss_cons (ps_setLc (i := 4) (own := [("_law_k", 9)]) (g := gName 9) (tt := tYes) (te := (tCall spPlace [] E0 (tCons (tVar 0) (tCons (tVar 2) tNil)))) (by rfl) sc__law_bottom.nd rfl rfl (sw_true rfl rfl rfl (by decide +kernel)) (pi_range1 (by rfl) z.range (pa_cons (pe_cal c__law_draw hr (pa_cons (pv 0) (pa_cons pe_int pa_nil))) pa_nil)) (blkOk_by (own := [("_law_k", 9)]) (N := ["_law_well_here", "_law_way", "_law_kind", "_law_first", "_law_places", "_law_ks", "_law_rest", "_law_due", "_law_by", "_law_k", "_law_one_here"]) (sc := defScope s__law_bottom) (by decide +kernel)) (fun _ _ _ _ _ => by exact (pg_name (i := 9) sc__law_bottom.nd rfl (.inl rfl))) (fun _ _ _ _ _ => by exact pts_nil) (fun _ _ _ _ _ => by exact (pe_cal c__law_place hr (pa_cons (pv 0) (pa_cons (pv 2) pa_nil)))))
      (pss_one (ps_ret (pe_tup (pa_cons (pe_op op_cat (pe_lst (pa_cons (pv 3) pa_nil)) (pv 4)) (pa_cons pe_non pa_nil)))))))) pss_nil)
      (pss_cons (ps_setLc (i := 5) (own := [("_law_k", 9)]) (g := gName 9) (tt := tYes) (te := (tCall spRung [] E0 (tCons (tVar 0) tNil))) (by rfl) sc__law_bottom.nd rfl rfl (sw_true rfl rfl rfl (by decide +kernel)) (pi_range1 (by rfl) z.range (pa_cons (pe_cal c__law_one hr (pa_cons (pv 0) (pa_cons (pe_lst (pa_cons pe_int (pa_cons pe_int (pa_cons pe_int (pa_cons pe_int (pa_cons pe_int (pa_cons pe_int pa_nil))))))) pa_nil))) pa_nil)) (blkOk_by (own := [("_law_k", 9)]) (N := ["_law_well_here", "_law_way", "_law_kind", "_law_first", "_law_places", "_law_ks", "_law_rest", "_law_due", "_law_by", "_law_k", "_law_one_here"]) (sc := defScope s__law_bottom) (by decide +kernel)) (fun _ _ _ _ _ => by exact (pg_name (i := 9) sc__law_bottom.nd rfl (.inl rfl))) (fun _ _ _ _ _ => by exact pts_nil) (fun _ _ _ _ _ => by exact (pe_cal c__law_rung hr (pa_cons (pv 0) pa_nil))))
      (pss_cons (ps_set (i := 6) sc__law_bottom.nd rfl (.inl rfl) (pe_lst (pa_cons (pe_tup (pa_cons pe_int (pa_cons pe_int pa_nil))) pa_nil)))
      (pss_cons (ps_set (i := 7) sc__law_bottom.nd rfl (.inl rfl) (pe_tup (pa_cons pe_str (pa_cons (pv 5) pa_nil))))
      (pss_cons (ps_if (pt_cmpR op_eq (pv 1) pe_int (nomark _)) (pss_cons (ps_set (i := 6) sc__law_bottom.nd rfl (.inl rfl) (pe_cal c__law_left hr (pa_cons (pv 0) pa_nil)))
      (pss_one (ps_set (i := 7) sc__law_bottom.nd rfl (.inl rfl) (pe_tup (pa_cons pe_str (pa_cons (pv 6) (pa_cons (pe_slice sl_list (pv 5) po_none (po_some pe_int)) pa_nil))))))) pss_nil)
      (pss_cons (ps_set (i := 8) sc__law_bottom.nd rfl (.inr rfl) (pe_cal c__law_one hr (pa_cons (pv 0) (pa_cons (pe_lst (pa_cons (pe_tup (pa_cons pe_int (pa_cons pe_int pa_nil))) (pa_cons (pe_tup (pa_cons (pe_un un_neg pe_int) (pa_cons pe_int pa_nil))) (pa_cons (pe_tup (pa_cons pe_int (pa_cons pe_int pa_nil))) (pa_cons (pe_tup (pa_cons (pe_un un_neg (pe_op op_pow pe_int pe_int)) (pa_cons pe_int pa_nil))) pa_nil))))) pa_nil))))
      (pss_one (ps_ret (pe_tup (pa_cons (pe_lc (own := [("_law_one_here", 10)]) (g := gName 10) (tt := tYes) (te := (tCall spLowP [] E0 (tCons (tOp (rI CMulW fun i j => V.int (i * j)) (tOp (rIxT K) (tVar 10) (tC (.int 0))) (tOp (rIxT K) (tVar 8) (tC (.int 0)))) (tCons (tOp (rI CMulW fun i j => V.int (i * j)) (tOp (rIxT K) (tVar 10) (tC (.int 1))) (tOp (rIxT K) (tVar 8) (tC (.int 1)))) tNil)))) (by rfl) sc__law_bottom.nd (pi_list (pe_cal c__law_raised hr (pa_cons (pv 6) (pa_cons (pe_ix ix_tup (pv 7) (pe_un un_neg pe_int) (fun _ _ => rfl)) pa_nil)))) (blkOk_by (own := [("_law_one_here", 10)]) (N := ["_law_well_here", "_law_way", "_law_kind", "_law_first", "_law_places", "_law_ks", "_law_rest", "_law_due", "_law_by", "_law_k", "_law_one_here"]) (sc := defScope s__law_bottom) (by decide +kernel)) (fun _ _ _ _ _ => by exact (pg_name (i := 10) sc__law_bottom.nd rfl (.inl rfl))) (fun _ _ _ _ _ => by exact pts_nil) (fun _ _ _ _ _ => by exact (pe_cal c__law_low hr (pa_cons (pe_op op_mulW (pe_ix ix_tup (pv 10) pe_int (fun _ _ => rfl)) (pe_ix ix_tup (pv 8) pe_int (fun _ _ => rfl))) (pa_cons (pe_op op_mulW (pe_ix ix_tup (pv 10) pe_int (fun _ _ => rfl)) (pe_ix ix_tup (pv 8) pe_int (fun _ _ => rfl))) pa_nil))))) (pa_cons (pv 7) pa_nil))))))))))), ?_⟩
    refine ⟨_, rfl, _, _, rfl, rfl, _, rfl, ite2 (fun cc => ?_) (fun cc => ?_)⟩
    · refine ⟨_, rfl, ww, c, 4, rfl, hw, by omega, by decide, by decide, fun r1 H1 r10 r11 d1 f1 w1 => ⟨_, _, rfl, rfl, ⟨by decide, by decide⟩, ?_⟩⟩
      generalize hkd : r1 / 3 = kd
      refine ⟨_, rfl, (by show 2 ≤ sizeLine; decide), fun k0 hk0 => ?_⟩
      generalize hU : upd _ k0 _ = kG0
      have kf0 : Fr kG0 k0 (Rat.divInt 1 1) := by
        rw [← hU]
        exact frC (by decide +kernel) (by decide +kernel) upd_same
      have ks0 : Same H1 kG0 := by
        rw [← hU]
        exact same_new hk0
      clear hU
      refine ⟨_, rfl, (by show 2 ≤ sizeLine; decide), fun k1 hk1 => ?_⟩
      generalize hU : upd _ k1 _ = kG1
      have kf1 : Fr kG1 k1 (Rat.divInt (-2) 1) := by
        rw [← hU]
        exact frC (by decide +kernel) (by decide +kernel) upd_same
      have ks1 : Same kG0 kG1 := by
        rw [← hU]
        exact same_new hk1
      clear hU
      refine ⟨(by show 2 ≤ sizeLine; decide), fun k2 hk2 => ?_⟩
      generalize hU : upd _ k2 _ = kG2
      have kf2 : Fr kG2 k2 (Rat.divInt 3 2) := by
        rw [← hU]
        exact frC (by decide +kernel) (by decide +kernel) upd_same
      have ks2 : Same kG1 kG2 := by
        rw [← hU]
        exact same_new hk2
      clear hU
      refine ⟨(by show 2 ≤ sizeLine; decide), fun k3 hk3 => ?_⟩
      generalize hU : upd _ k3 _ = kG3
      have kf3 : Fr kG3 k3 (Rat.divInt 5 1) := by
        rw [← hU]
        exact frC (by decide +kernel) (by decide +kernel) upd_same
      have ks3 : Same kG2 kG3 := by
        rw [← hU]
        exact same_new hk3
      clear hU
      refine ⟨(by show 4 ≤ sizeLine; decide), fun kl hkl => ?_⟩
      generalize hU : upd _ kl _ = kG
      have ke : kG kl = some (.lst [.ref k0, .ref k1, .ref k2, .ref k3]) := by
        rw [← hU]
        exact upd_same
      have kt : Same kG3 kG := by
        rw [← hU]
        exact same_new hkl
      clear hU
      have kS : Same H1 kG := (ks0.trans (ks1.trans (ks2.trans (ks3.trans kt))))
      have kA : ∀ v ∈ [V.ref k0, V.ref k1, V.ref k2, V.ref k3], ∃ p q, v = V.ref p ∧ Fr kG p q ∧ (q ≠ 0 ∧ q.num.natAbs ≤ 5 ∧ q.den ≤ 2) := fun v hv => by
        simp only [List.mem_cons, List.not_mem_nil, or_false] at hv
        rcases hv with rfl | rfl | rfl | rfl
        · exact ⟨_, _, rfl, Fr.same kf0 (ks1.trans (ks2.trans (ks3.trans kt))), ⟨by decide +kernel, by decide +kernel, by decide +kernel⟩⟩
        · exact ⟨_, _, rfl, Fr.same kf1 (ks2.trans (ks3.trans kt)), ⟨by decide +kernel, by decide +kernel, by decide +kernel⟩⟩
        · exact ⟨_, _, rfl, Fr.same kf2 (ks3.trans kt), ⟨by decide +kernel, by decide +kernel, by decide +kernel⟩⟩
        · exact ⟨_, _, rfl, Fr.same kf3 kt, ⟨by decide +kernel, by decide +kernel, by decide +kernel⟩⟩
      have wk := w1.same kS
      have nkl : kl ≠ ww := fun z => by
        obtain ⟨_, _, _, ee, _⟩ := wk
        rw [← z, ke] at ee
        cases ee
      refine ⟨ww, kl, _, _, rfl, wk, by omega, nkl, ke, (by show 0 < 4; decide), (by show 4 ≤ 1000; decide), fun v hv H3 d3 f3 w3 => ?_⟩
      obtain ⟨p0, f, rfl, ff, fz, fnb, fdb⟩ := kA v hv
      have ff3 := ff.well d3 wk
      refine ⟨_, rfl, ww, _, 5, rfl, w3, by omega, by decide, by decide, fun r4 H4 r40 r41 d4 f4 w4 => ⟨_, rfl, by omega, by omega, fun D hD => ?_⟩⟩
      obtain ⟨n, rfl⟩ := Int.eq_ofNat_of_zero_le r40
      rw [Int.toNat_natCast]
      have nD := w4.ne hD
      refine lc_range (lo := 0) (n := n) (fun j H' => PlsAt ww H4 H' _ D Pl j) (PlsAt.start w4 hD) (fun j H5 hj hP => ?_) (fun H5 hP => ?_)
      · refine ⟨rfl, _, rfl, _, rfl, ww, _, _, rfl, hP.2.1, by omega, fun p t b H6 hp d6 w6 f6 b1 b2 t1 k0 => ?_⟩
        exact hP.step hD nD hp d6 (w6.mono (by omega)) f6 ⟨t, b, rfl, b1, b2, t1⟩ (by omega)
      · obtain ⟨ps, fD, lps, hps⟩ := hP.list
        have w5 := hP.2.1
        have ff5 := (ff3.well d4 w3).well hP.1 w4
        have S5 : SameBut ww H H5 := d1.trans ((SameBut.of kS).trans (d3.trans (d4.trans hP.1)))
        obtain ⟨vs, eD, lv, hv2⟩ := fD.len
        refine ⟨_, rfl, (by show 1 ≤ sizeLine; decide), fun l1 hl1 => ?_⟩
        generalize hU : upd _ l1 _ = Z1
        have sZ1 : Same H5 Z1 := by
          rw [← hU]
          exact same_new hl1
        have eZ1 : Z1 l1 = some (.lst [.ref p0]) := by
          rw [← hU]
          exact upd_same
        clear hU
        refine ⟨_, rfl, l1, D, _, _, rfl, rfl, eZ1, sZ1 _ _ eD, sl_le (by show 1 + vs.length ≤ 1000; omega), fun B hB => ?_⟩
        generalize hU : upd _ B _ = Z2
        have sZ2 : Same Z1 Z2 := by
          rw [← hU]
          exact same_new hB
        have eZ2 : Z2 B = some (.lst ([.ref p0] ++ vs)) := by
          rw [← hU]
          exact upd_same
        clear hU
        refine ⟨(by show 2 ≤ sizeLine; decide), fun T hT => ?_⟩
        have sT := same_new (o := .tup [.ref B, .non]) hT
        have SX := sZ1.trans (sZ2.trans sT)
        refine q T B .non (f :: ps) _ (S5.trans (SameBut.of SX)) ((w5.same SX).mono (by omega)) upd_same ⟨_, sT _ _ eZ2, FrsAt.app (FrsAt.one (ff5.same SX)) (PrsAt.same hv2 SX)⟩ (drawn_ok fz fnb fdb hps (by omega)) (.inl rfl)
    · refine ⟨_, rfl, (by show 6 ≤ sizeLine; decide), fun l1 hl1 => ?_⟩
      generalize hU : upd _ l1 _ = Z1
      have sZ1 : Same H Z1 := by
        rw [← hU]
        exact same_new hl1
      have eZ1 : Z1 l1 = some (.lst [.int 0, .int 1, .int 2, .int 3, .int 4, .int 6]) := by
        rw [← hU]
        exact upd_same
      clear hU
      refine ⟨ww, l1, _, _, rfl, hw.same sZ1, by omega, hw.ne hl1, eZ1, (by show 0 < 6; decide), (by show 6 ≤ 1000; decide), fun v hv H2 d2 f2 w2 => ?_⟩
      obtain ⟨n, rfl, n6⟩ : ∃ n : Nat, v = .int n ∧ n ≤ 6 := by
        simp only [List.mem_cons, List.not_mem_nil, or_false] at hv
        rcases hv with rfl | rfl | rfl | rfl | rfl | rfl
        · exact ⟨0, rfl, by decide⟩
        · exact ⟨1, rfl, by decide⟩
        · exact ⟨2, rfl, by decide⟩
        · exact ⟨3, rfl, by decide⟩
        · exact ⟨4, rfl, by decide⟩
        · exact ⟨6, rfl, by decide⟩
      refine ⟨_, rfl, by omega, by omega, fun D hD => ?_⟩
      rw [Int.toNat_natCast]
      have nD := w2.ne hD
      refine lc_range (lo := 0) (n := n) (fun j H' => PlsAt ww H2 H' _ D Rg j) (PlsAt.start w2 hD) (fun j H3 hj hP => ?_) (fun H3 hP => ?_)
      · refine ⟨rfl, _, rfl, ww, _, rfl, hP.2.1, by omega, fun p x H4 hp d4 w4 f4 rg => ?_⟩
        exact hP.step hD nD hp d4 (w4.mono (by omega)) f4 rg (by omega)
      · obtain ⟨ks, fD, lks, hks⟩ := hP.list
        have w3 := hP.2.1
        have S3 : SameBut ww H H3 := (SameBut.of sZ1).trans (d2.trans hP.1)
        have kl : ks.length ≤ 6 := by omega
        refine ⟨(by show 2 ≤ sizeLine; decide), fun o1 ho1 => ?_⟩
        generalize hU : upd _ o1 _ = Z2
        have sZ2 : Same H3 Z2 := by
          rw [← hU]
          exact same_new ho1
        have eZ2 : Z2 o1 = some (.tup [.int 1, .int 1]) := by
          rw [← hU]
          exact upd_same
        clear hU
        refine ⟨(by show 1 ≤ sizeLine; decide), fun rq hrq => ?_⟩
        generalize hU : upd _ rq _ = Z3
        have sZ3 : Same Z2 Z3 := by
          rw [← hU]
          exact same_new hrq
        have eZ3 : Z3 rq = some (.lst [.ref o1]) := by
          rw [← hU]
          exact upd_same
        clear hU
        refine ⟨_, rfl, (by show 2 ≤ sizeLine; decide), fun dt hdt => ?_⟩
        generalize hU : upd _ dt _ = Z4
        have sZ4 : Same Z3 Z4 := by
          rw [← hU]
          exact same_new hdt
        have eZ4 : Z4 dt = some (.tup [.str "in", .ref D]) := by
          rw [← hU]
          exact upd_same
        clear hU
        have S24 := sZ2.trans (sZ3.trans sZ4)
        have w4 := w3.same S24
        have S4 := S3.trans (SameBut.of S24)
        have fo : Fr Z2 o1 1 := eZ2
        have frq : FrL Z4 rq [1] := ⟨_, sZ4 _ _ eZ3, FrsAt.one (fo.same (sZ3.trans sZ4))⟩
        have fD4 := fD.same S24
        refine ⟨_, rfl, rfl, _, rfl, ite2 (fun c1 => ?_) (fun c1 => ?_)⟩
        · refine ⟨_, rfl, ww, _, rfl, w4, by omega, fun L r Z5 hL d5 w5 fL fin l2 l4 sc => ?_⟩
          have fD5 := fD4.well d5 w4 nD
          obtain ⟨ws0, eD0, lws0, hws0⟩ := fD5.len
          refine ⟨_, rfl, _, rfl, _, rfl, D, _, rfl, SqL.of eD0, fun K4 hK4 => ?_⟩
          generalize hU : upd _ K4 _ = Z6
          have sZ6 : Same Z5 Z6 := by
            rw [← hU]
            exact same_new hK4
          have eZ6 : Z6 K4 = some (.lst (cutV ws0 none (some 4))) := by
            rw [← hU]
            exact upd_same
          clear hU
          refine ⟨(by show 3 ≤ sizeLine; decide), fun dt2 hdt2 => ?_⟩
          generalize hU : upd _ dt2 _ = Z7
          have sZ7 : Same Z6 Z7 := by
            rw [← hU]
            exact same_new hdt2
          have eZ7 : Z7 dt2 = some (.tup [.str "out", .ref L, .ref K4]) := by
            rw [← hU]
            exact upd_same
          clear hU
          have w7 := w5.same (sZ6.trans sZ7)
          have S7 := S4.trans (d5.trans (SameBut.of (sZ6.trans sZ7)))
          have fL7 := fL.same (sZ6.trans sZ7)
          have fK7 : FrL Z7 K4 (ks.take 4) := ⟨_, sZ7 _ _ eZ6, by
            rw [cut4]
            exact PrsAt.same (FrsAt.take hws0 4) (sZ6.trans sZ7)⟩
          have BK := fun y (y0 : y ≠ 0) (sy : Sc 21 21000000000 y) => raised_ok (y := y) fin l4 sc (fun k hk => hks k (List.mem_of_mem_take hk)) (show (ks.take 4).length ≤ 6 by rw [List.length_take]; omega) y0 sy
          have ins : ∀ k ∈ (ks.take 4), Ins k := fun k hk => ((fun k hk => hks k (List.mem_of_mem_take hk)) k hk).1
          have lo : LadOk (raise r (ks.take 4)) := (BK 1 (by decide +kernel) ⟨21, by decide +kernel, by decide⟩).2.2
          have kks : ∀ k ∈ (ks.take 4), Ks k := fun k hk => by
            obtain ⟨i, E, E0, el, sk⟩ := (fun k hk => hks k (List.mem_of_mem_take hk)) k hk
            have d1 := Nat.le_of_dvd (by omega) (Int.natAbs_dvd_natAbs.mpr sk.den)
            have p2 : (2 : Nat) ^ 20 < 2 ^ 1000 := Nat.pow_lt_pow_right (by decide) (by decide)
            have nm := i.num
            exact ⟨by omega, by omega⟩
          have chn := lad_chain fin _ (ks.take 4) rfl ins lo
          refine ⟨_, rfl, (by show 2 ≤ sizeLine; decide), fun y0 hy0 => ?_⟩
          generalize hU : upd _ y0 _ = yG0
          have yf0 : Fr yG0 y0 (Rat.divInt 1 1) := by
            rw [← hU]
            exact frC (by decide +kernel) (by decide +kernel) upd_same
          have ys0 : Same Z7 yG0 := by
            rw [← hU]
            exact same_new hy0
          clear hU
          refine ⟨_, rfl, (by show 2 ≤ sizeLine; decide), fun y1 hy1 => ?_⟩
          generalize hU : upd _ y1 _ = yG1
          have yf1 : Fr yG1 y1 (Rat.divInt (-1) 1) := by
            rw [← hU]
            exact frC (by decide +kernel) (by decide +kernel) upd_same
          have ys1 : Same yG0 yG1 := by
            rw [← hU]
            exact same_new hy1
          clear hU
          refine ⟨(by show 2 ≤ sizeLine; decide), fun y2 hy2 => ?_⟩
          generalize hU : upd _ y2 _ = yG2
          have yf2 : Fr yG2 y2 (Rat.divInt 7 3) := by
            rw [← hU]
            exact frC (by decide +kernel) (by decide +kernel) upd_same
          have ys2 : Same yG1 yG2 := by
            rw [← hU]
            exact same_new hy2
          clear hU
          refine ⟨_, _, rfl, rfl, ⟨by decide, by decide, by decide⟩, _, rfl, (by show 2 ≤ sizeLine; decide), fun y3 hy3 => ?_⟩
          generalize hU : upd _ y3 _ = yG3
          have yf3 : Fr yG3 y3 (Rat.divInt (-1000000000) 7) := by
            rw [← hU]
            exact frC (by decide +kernel) (by decide +kernel) upd_same
          have ys3 : Same yG2 yG3 := by
            rw [← hU]
            exact same_new hy3
          clear hU
          refine ⟨(by show 4 ≤ sizeLine; decide), fun yl hyl => ?_⟩
          generalize hU : upd _ yl _ = yG
          have ye : yG yl = some (.lst [.ref y0, .ref y1, .ref y2, .ref y3]) := by
            rw [← hU]
            exact upd_same
          have yt : Same yG3 yG := by
            rw [← hU]
            exact same_new hyl
          clear hU
          have yS : Same Z7 yG := (ys0.trans (ys1.trans (ys2.trans (ys3.trans yt))))
          have yA : ∀ v ∈ [V.ref y0, V.ref y1, V.ref y2, V.ref y3], ∃ p q, v = V.ref p ∧ Fr yG p q ∧ (q ≠ 0 ∧ Sc 21 21000000000 q) := fun v hv => by
            simp only [List.mem_cons, List.not_mem_nil, or_false] at hv
            rcases hv with rfl | rfl | rfl | rfl
            · exact ⟨_, _, rfl, Fr.same yf0 (ys1.trans (ys2.trans (ys3.trans yt))), ⟨by decide +kernel, 21, by decide +kernel, by decide⟩⟩
            · exact ⟨_, _, rfl, Fr.same yf1 (ys2.trans (ys3.trans yt)), ⟨by decide +kernel, -21, by decide +kernel, by decide⟩⟩
            · exact ⟨_, _, rfl, Fr.same yf2 (ys3.trans yt), ⟨by decide +kernel, 49, by decide +kernel, by decide⟩⟩
            · exact ⟨_, _, rfl, Fr.same yf3 yt, ⟨by decide +kernel, -3000000000, by decide +kernel, by decide⟩⟩
          have wy := w7.same yS
          have nyl : yl ≠ ww := fun z => by
            obtain ⟨_, _, _, ee, _⟩ := wy
            rw [← z, ye] at ee
            cases ee
          refine ⟨ww, yl, _, _, rfl, wy, by omega, nyl, ye, (by show 0 < 4; decide), (by show 4 ≤ 1000; decide), fun v hv V1 dv fv wv => ?_⟩
          obtain ⟨py, y, rfl, fy, y0, sy⟩ := yA v hv
          have fy1 := fy.well dv wy
          have SV := S7.trans ((SameBut.of yS).trans dv)
          have NT : ∀ {a : Addr} {o : HO}, Z7 a = some o → a ≠ ww → V1 a = some o := fun e n => dv _ _ n (yS _ _ e)
          have edt1 := NT eZ7 (fun z => by
            obtain ⟨_, _, _, ee, _⟩ := w7
            rw [← z, eZ7] at ee
            cases ee)
          have NW : ∀ {a : Addr} {qs : List Rat}, FrL Z7 a qs → a ≠ ww := fun {a qs} h z => by
            obtain ⟨_, _, _, ee, _⟩ := w7
            obtain ⟨vs, e1, e2⟩ := h
            rw [← z, e1] at ee
            replace e2 : PrsAt Z7 vs (qs.map pr) := e2
            generalize qs.map pr = ps at e2
            cases e2 with
            | nil => cases ee
            | cons _ _ => cases ee
          have frest1 := (fL7.same yS).well dv wy (NW fL7)
          have fks1 := (fK7.same yS).well dv wy (NW fK7)
          refine ⟨_, rfl, _, rfl, _, rfl, dt2, _, _, .ref K4, rfl, rfl, SqT.of edt1, atI_last [V.str "out", V.ref L] _, L, K4, r, (ks.take 4), rfl, frest1, fks1, Nat.le_trans l4 (by decide), Nat.le_trans (show (ks.take 4).length ≤ 6 by rw [List.length_take]; omega) (by decide), kks, chn, fun pr_ V2 hpr s2 fpr => ?_⟩
          obtain ⟨B1, B2, -⟩ := BK y y0 sy
          obtain ⟨xs, exs, lxs, hxs⟩ := fpr.len
          have py2 := s2 _ _ fy1
          have lmax : (raise r (ks.take 4)).length ≤ 20 := by
            have := B1.l1
            rw [List.length_map] at this
            exact this
          refine ⟨pr_, rfl, ⟨_, SqL.of exs⟩, fun DD hDD => lc_list (K := K) (a := pr_) (xs := xs) (fun i X => Same V2 X ∧ ∃ ws, X DD = some (.lst ws) ∧ FrsAt X ws (((raise r (ks.take 4)).take i).map fun x => x * y)) ⟨same_new hDD, [], upd_same, .nil⟩ (fun i X _ hP => SqL.of (hP.1 _ _ exs)) (fun i v X hx hP => ?_) (fun X hP => ?_)⟩
          · obtain ⟨sX, ws, hws, fws⟩ := hP
            obtain ⟨p, x, rfl, hqx, hp⟩ := FrsAt.get hxs hx
            have li := (List.getElem?_eq_some_iff.mp hqx).1
            obtain ⟨x1, x2⟩ := lo.szs x (List.mem_of_getElem? hqx)
            have yd : ((y.den : Int)).natAbs ≤ 21 := Nat.le_of_dvd (by decide) (Int.natAbs_dvd_natAbs.mpr sy.den)
            have yn := sy.num (by decide)
            have yd2 : ((y.den : Int)).natAbs < 2 ^ 40 := by omega
            have yn2 : y.num.natAbs < 2 ^ 40 := by omega
            have xd2 : ((x.den : Int)).natAbs < 2 ^ 1000 := by omega
            have hpX := sX _ _ hp
            have pyX := sX _ _ py2
            have lw := FrsAt.len fws
            rw [List.length_map, List.length_take] at lw
            have nz : (x.den : Int) * (y.den : Int) ≠ 0 := Int.mul_ne_zero (den_ne x) (den_ne y)
            refine ⟨rfl, _, rfl, p, _, 0, .int x.num, rfl, rfl, SqT.of hpX, a0, _, rfl, py, _, 0, .int y.num, rfl, rfl, SqT.of pyX, a0, _, _, rfl, rfl, wide_mul x2 yn2 (by decide) (by decide) (by decide), _, rfl, p, _, 1, .int x.den, rfl, rfl, SqT.of hpX, a1, _, rfl, py, _, 1, .int y.den, rfl, rfl, SqT.of pyX, a1, _, _, rfl, rfl, wide_mul xd2 yd2 (by decide) (by decide) (by decide), _, _, rfl, Int.mul_pos (den_ge x) (den_ge y), ?_, fun t ht => ?_⟩
            · rw [Int.natAbs_mul]
              have := Nat.mul_lt_mul'' xd2 yd2
              rw [← Nat.pow_add] at this
              exact up this (by decide)
            have st := same_new (o := .tup [.int (lowT (x.num * y.num) ((x.den : Int) * (y.den : Int))), .int (lowB (x.num * y.num) ((x.den : Int) * (y.den : Int)))]) ht
            have ft : Fr (upd X t (.tup [.int (lowT (x.num * y.num) ((x.den : Int) * (y.den : Int))), .int (lowB (x.num * y.num) ((x.den : Int) * (y.den : Int)))])) t (x * y) := Fr.low nz (times_q x y) upd_same
            have nt : t ≠ DD := fun e => by
              rw [e, hws] at ht
              cases ht
            refine ⟨_, st _ _ hws, small1000 (by omega), fun b o e => ?_, _, upd_same, ?_⟩
            · rw [upd_ne (ne_of_none e hDD)]
              exact st _ _ (sX _ _ e)
            · rw [List.take_succ, hqx, Option.toList_some, List.map_append]
              refine FrsAt.app ((PrsAt.same fws st).but SameBut.upd (st _ _ hws)) (FrsAt.one ?_)
              show (upd (upd X t _) DD _) t = _
              rw [upd_ne nt]
              exact ft
          obtain ⟨sX, ws, hws, fws⟩ := hP
          rw [lxs, List.take_length] at fws
          refine ⟨_, rfl, (by show 2 ≤ sizeLine; decide), fun T hT => ?_⟩
          have sT := same_new (o := .tup [.ref DD, .ref dt2]) hT
          have SX := s2.trans (sX.trans sT)
          refine q T DD (.ref dt2) ((raise r (ks.take 4)).map fun x => x * y) _ (SV.trans (SameBut.of SX)) ((wv.same SX).mono (by omega)) upd_same ⟨ws, sT _ _ hws, PrsAt.same fws sT⟩ B1 (.inr ⟨dt2, rfl, ?_⟩)
          rw [B2]
          exact ⟨K4, (ks.take 4), fks1.same SX, ins, .inr ⟨L, r, SX _ _ edt1, frest1.same SX, l2, fin, rfl⟩⟩
        · skip
          have BK := fun y (y0 : y ≠ 0) (sy : Sc 21 21000000000 y) => raised_ok (y := y) (.inl rfl) (show ([1] : List Rat).length ≤ 4 by decide) (fun x hx => by rw [List.mem_singleton.mp hx]; exact ⟨6000000, by decide +kernel, by decide⟩) hks kl y0 sy
          have ins : ∀ k ∈ ks, Ins k := fun k hk => (hks k hk).1
          have lo : LadOk (raise [1] ks) := (BK 1 (by decide +kernel) ⟨21, by decide +kernel, by decide⟩).2.2
          have kks : ∀ k ∈ ks, Ks k := fun k hk => by
            obtain ⟨i, E, E0, el, sk⟩ := hks k hk
            have d1 := Nat.le_of_dvd (by omega) (Int.natAbs_dvd_natAbs.mpr sk.den)
            have p2 : (2 : Nat) ^ 20 < 2 ^ 1000 := Nat.pow_lt_pow_right (by decide) (by decide)
            have nm := i.num
            exact ⟨by omega, by omega⟩
          have chn := lad_chain (.inl rfl) _ ks rfl ins lo
          refine ⟨_, rfl, (by show 2 ≤ sizeLine; decide), fun y0 hy0 => ?_⟩
          generalize hU : upd _ y0 _ = yG0
          have yf0 : Fr yG0 y0 (Rat.divInt 1 1) := by
            rw [← hU]
            exact frC (by decide +kernel) (by decide +kernel) upd_same
          have ys0 : Same Z4 yG0 := by
            rw [← hU]
            exact same_new hy0
          clear hU
          refine ⟨_, rfl, (by show 2 ≤ sizeLine; decide), fun y1 hy1 => ?_⟩
          generalize hU : upd _ y1 _ = yG1
          have yf1 : Fr yG1 y1 (Rat.divInt (-1) 1) := by
            rw [← hU]
            exact frC (by decide +kernel) (by decide +kernel) upd_same
          have ys1 : Same yG0 yG1 := by
            rw [← hU]
            exact same_new hy1
          clear hU
          refine ⟨(by show 2 ≤ sizeLine; decide), fun y2 hy2 => ?_⟩
          generalize hU : upd _ y2 _ = yG2
          have yf2 : Fr yG2 y2 (Rat.divInt 7 3) := by
            rw [← hU]
            exact frC (by decide +kernel) (by decide +kernel) upd_same
          have ys2 : Same yG1 yG2 := by
            rw [← hU]
            exact same_new hy2
          clear hU
          refine ⟨_, _, rfl, rfl, ⟨by decide, by decide, by decide⟩, _, rfl, (by show 2 ≤ sizeLine; decide), fun y3 hy3 => ?_⟩
          generalize hU : upd _ y3 _ = yG3
          have yf3 : Fr yG3 y3 (Rat.divInt (-1000000000) 7) := by
            rw [← hU]
            exact frC (by decide +kernel) (by decide +kernel) upd_same
          have ys3 : Same yG2 yG3 := by
            rw [← hU]
            exact same_new hy3
          clear hU
          refine ⟨(by show 4 ≤ sizeLine; decide), fun yl hyl => ?_⟩
          generalize hU : upd _ yl _ = yG
          have ye : yG yl = some (.lst [.ref y0, .ref y1, .ref y2, .ref y3]) := by
            rw [← hU]
            exact upd_same
          have yt : Same yG3 yG := by
            rw [← hU]
            exact same_new hyl
          clear hU
          have yS : Same Z4 yG := (ys0.trans (ys1.trans (ys2.trans (ys3.trans yt))))
          have yA : ∀ v ∈ [V.ref y0, V.ref y1, V.ref y2, V.ref y3], ∃ p q, v = V.ref p ∧ Fr yG p q ∧ (q ≠ 0 ∧ Sc 21 21000000000 q) := fun v hv => by
            simp only [List.mem_cons, List.not_mem_nil, or_false] at hv
            rcases hv with rfl | rfl | rfl | rfl
            · exact ⟨_, _, rfl, Fr.same yf0 (ys1.trans (ys2.trans (ys3.trans yt))), ⟨by decide +kernel, 21, by decide +kernel, by decide⟩⟩
            · exact ⟨_, _, rfl, Fr.same yf1 (ys2.trans (ys3.trans yt)), ⟨by decide +kernel, -21, by decide +kernel, by decide⟩⟩
            · exact ⟨_, _, rfl, Fr.same yf2 (ys3.trans yt), ⟨by decide +kernel, 49, by decide +kernel, by decide⟩⟩
            · exact ⟨_, _, rfl, Fr.same yf3 yt, ⟨by decide +kernel, -3000000000, by decide +kernel, by decide⟩⟩
          have wy := w4.same yS
          have nyl : yl ≠ ww := fun z => by
            obtain ⟨_, _, _, ee, _⟩ := wy
            rw [← z, ye] at ee
            cases ee
          refine ⟨ww, yl, _, _, rfl, wy, by omega, nyl, ye, (by show 0 < 4; decide), (by show 4 ≤ 1000; decide), fun v hv V1 dv fv wv => ?_⟩
          obtain ⟨py, y, rfl, fy, y0, sy⟩ := yA v hv
          have fy1 := fy.well dv wy
          have SV := S4.trans ((SameBut.of yS).trans dv)
          have NT : ∀ {a : Addr} {o : HO}, Z4 a = some o → a ≠ ww → V1 a = some o := fun e n => dv _ _ n (yS _ _ e)
          have edt1 := NT eZ4 (fun z => by
            obtain ⟨_, _, _, ee, _⟩ := w4
            rw [← z, eZ4] at ee
            cases ee)
          have NW : ∀ {a : Addr} {qs : List Rat}, FrL Z4 a qs → a ≠ ww := fun {a qs} h z => by
            obtain ⟨_, _, _, ee, _⟩ := w4
            obtain ⟨vs, e1, e2⟩ := h
            rw [← z, e1] at ee
            replace e2 : PrsAt Z4 vs (qs.map pr) := e2
            generalize qs.map pr = ps at e2
            cases e2 with
            | nil => cases ee
            | cons _ _ => cases ee
          have frest1 := (frq.same yS).well dv wy (NW frq)
          have fks1 := (fD4.same yS).well dv wy (NW fD4)
          refine ⟨_, rfl, _, rfl, _, rfl, dt, _, _, .ref D, rfl, rfl, SqT.of edt1, atI_last [V.str "in"] _, rq, D, [1], ks, rfl, frest1, fks1, Nat.le_trans (show ([1] : List Rat).length ≤ 4 by decide) (by decide), Nat.le_trans kl (by decide), kks, chn, fun pr_ V2 hpr s2 fpr => ?_⟩
          obtain ⟨B1, B2, -⟩ := BK y y0 sy
          obtain ⟨xs, exs, lxs, hxs⟩ := fpr.len
          have py2 := s2 _ _ fy1
          have lmax : (raise [1] ks).length ≤ 20 := by
            have := B1.l1
            rw [List.length_map] at this
            exact this
          refine ⟨pr_, rfl, ⟨_, SqL.of exs⟩, fun DD hDD => lc_list (K := K) (a := pr_) (xs := xs) (fun i X => Same V2 X ∧ ∃ ws, X DD = some (.lst ws) ∧ FrsAt X ws (((raise [1] ks).take i).map fun x => x * y)) ⟨same_new hDD, [], upd_same, .nil⟩ (fun i X _ hP => SqL.of (hP.1 _ _ exs)) (fun i v X hx hP => ?_) (fun X hP => ?_)⟩
          · obtain ⟨sX, ws, hws, fws⟩ := hP
            obtain ⟨p, x, rfl, hqx, hp⟩ := FrsAt.get hxs hx
            have li := (List.getElem?_eq_some_iff.mp hqx).1
            obtain ⟨x1, x2⟩ := lo.szs x (List.mem_of_getElem? hqx)
            have yd : ((y.den : Int)).natAbs ≤ 21 := Nat.le_of_dvd (by decide) (Int.natAbs_dvd_natAbs.mpr sy.den)
            have yn := sy.num (by decide)
            have yd2 : ((y.den : Int)).natAbs < 2 ^ 40 := by omega
            have yn2 : y.num.natAbs < 2 ^ 40 := by omega
            have xd2 : ((x.den : Int)).natAbs < 2 ^ 1000 := by omega
            have hpX := sX _ _ hp
            have pyX := sX _ _ py2
            have lw := FrsAt.len fws
            rw [List.length_map, List.length_take] at lw
            have nz : (x.den : Int) * (y.den : Int) ≠ 0 := Int.mul_ne_zero (den_ne x) (den_ne y)
            refine ⟨rfl, _, rfl, p, _, 0, .int x.num, rfl, rfl, SqT.of hpX, a0, _, rfl, py, _, 0, .int y.num, rfl, rfl, SqT.of pyX, a0, _, _, rfl, rfl, wide_mul x2 yn2 (by decide) (by decide) (by decide), _, rfl, p, _, 1, .int x.den, rfl, rfl, SqT.of hpX, a1, _, rfl, py, _, 1, .int y.den, rfl, rfl, SqT.of pyX, a1, _, _, rfl, rfl, wide_mul xd2 yd2 (by decide) (by decide) (by decide), _, _, rfl, Int.mul_pos (den_ge x) (den_ge y), ?_, fun t ht => ?_⟩
            · rw [Int.natAbs_mul]
              have := Nat.mul_lt_mul'' xd2 yd2
              rw [← Nat.pow_add] at this
              exact up this (by decide)
            have st := same_new (o := .tup [.int (lowT (x.num * y.num) ((x.den : Int) * (y.den : Int))), .int (lowB (x.num * y.num) ((x.den : Int) * (y.den : Int)))]) ht
            have ft : Fr (upd X t (.tup [.int (lowT (x.num * y.num) ((x.den : Int) * (y.den : Int))), .int (lowB (x.num * y.num) ((x.den : Int) * (y.den : Int)))])) t (x * y) := Fr.low nz (times_q x y) upd_same
            have nt : t ≠ DD := fun e => by
              rw [e, hws] at ht
              cases ht
            refine ⟨_, st _ _ hws, small1000 (by omega), fun b o e => ?_, _, upd_same, ?_⟩
            · rw [upd_ne (ne_of_none e hDD)]
              exact st _ _ (sX _ _ e)
            · rw [List.take_succ, hqx, Option.toList_some, List.map_append]
              refine FrsAt.app ((PrsAt.same fws st).but SameBut.upd (st _ _ hws)) (FrsAt.one ?_)
              show (upd (upd X t _) DD _) t = _
              rw [upd_ne nt]
              exact ft
          obtain ⟨sX, ws, hws, fws⟩ := hP
          rw [lxs, List.take_length] at fws
          refine ⟨_, rfl, (by show 2 ≤ sizeLine; decide), fun T hT => ?_⟩
          have sT := same_new (o := .tup [.ref DD, .ref dt]) hT
          have SX := s2.trans (sX.trans sT)
          refine q T DD (.ref dt) ((raise [1] ks).map fun x => x * y) _ (SV.trans (SameBut.of SX)) ((wv.same SX).mono (by omega)) upd_same ⟨ws, sT _ _ hws, PrsAt.same fws sT⟩ B1 (.inr ⟨dt, rfl, ?_⟩)
          rw [B2]
          exact ⟨D, ks, fks1.same SX, ins, .inl ⟨SX _ _ edt1, rfl⟩⟩
end
end E1

namespace E1
open PySem PySem.Spec PyProof.Rows L2

def spLaw (K : PySem.W.Frag) : Sp := fun vs H Q _ => ∃ (a : Addr) (ns : List Int), vs = [.ref a] ∧ SqL K H a (ns.map V.int) ∧ ns.length ≤ 63 ∧ ∀ H', Q (.bl true) H'
theorem cut_ints (ns : List Int) (lo hi : Option Int) : ∃ cs : List Int, cutV (ns.map V.int) lo hi = cs.map V.int := by
  unfold cutV
  rw [← List.map_drop, ← List.map_take]
  exact ⟨_, rfl⟩
theorem FrL.copy {H : Hp} {a l : Addr} {qs : List Rat} {vs : List V} (e : H a = some (.lst vs)) (h : FrL H a qs) (hl : H l = none) : FrL (upd H l (.lst vs)) l qs := by
  obtain ⟨ws, e2, r⟩ := h
  rw [e] at e2
  cases e2
  exact ⟨vs, upd_same, PrsAt.same r (same_new hl)⟩
theorem fn0_mem {qs : List Rat} (l : 0 < qs.length) : fn qs 0 ∈ qs := by
  unfold fn
  rw [getD_at l]
  exact List.getElem_mem l
def llD (qss : List (List Rat)) : List PyData := qss.map fun qs => .list (qs.map frD)
theorem ll_lay : ∀ qss : List (List Rat), PyData.canLayAll0 (llD qss) = true
  | [] => rfl
  | qs :: qss => by
    unfold llD
    rw [List.map_cons, PyData.canLayAll0]
    have i := ll_lay qss
    unfold llD at i
    rw [i, Bool.and_true]
    exact SeqAt.canLay_of_shaped (frL_shaped qs)
theorem ll_deep : ∀ qss : List (List Rat), PyData.depthAll (llD qss) ≤ 6
  | [] => by simp [llD, PyData.depthAll]
  | qs :: qss => by
    have i := ll_deep qss
    have j := frDs_deep qs
    unfold llD at *
    simp only [List.map_cons, PyData.depthAll, PyData.depth]
    omega
theorem ll_shaped (qss : List (List Rat)) : SeqAt.shaped (.list (llD qss)) = true := by
  have h1 := ll_deep qss
  have h2 : PyData.depth (.list (llD qss)) ≤ 64 := by simp only [PyData.depth]; omega
  show (PyData.canLay0 (.list (llD qss)) && decide (PyData.depth (.list (llD qss)) ≤ 64)) = true
  rw [Bool.and_eq_true]
  exact ⟨by simp only [PyData.canLay0]; exact ll_lay qss, decide_eq_true h2⟩
theorem ll_eqv (qss : List (List Rat)) : PyData.eqv (.list (llD qss)) (.list (llD qss)) = true := SeqAt.eqv_refl _ (SeqAt.canLay_of_shaped (ll_shaped qss))
theorem DueOk.same {H H' : Hp} {d : V} {qs : List Rat} (h : DueOk H d qs) (s : Same H H') : DueOk H' d qs := by
  rcases h with h | ⟨T, e, h⟩
  · exact .inl h
  · exact .inr ⟨T, e, h.same s⟩
/-- what is due is what is told -/
theorem due_no {K : PySem.W.Frag} {i j : Nat} {σ : L2.St} {H : Hp} {Q : Bool → Hp → Prop} {T : Addr} {d : V} {qs : List Rat} (e1 : σ[i]? = some (some (.ref T))) (e2 : σ[j]? = some (some d)) (hT : LadD H T (qs.map fun q => q / fn qs 0)) (hd : DueOk H d qs) (q : Q false H) :
    tAnd (tTest (tOp (fun x y H Q => y = V.non ∧ Q (V.bl !decide (x = V.non)) H) (tVar j) (tC V.non))) (tTest (tOp (rNeD K) (tVar i) (tVar j))) σ H Q := by
  refine ⟨d, e2, rfl, _, rfl, ?_⟩
  rcases hd with rfl | ⟨T0, rfl, h0⟩
  · exact iteF q
  · refine iteT ⟨_, e1, _, e2, ?_⟩
    obtain ⟨dd, p1, p2, sh, ev⟩ := hT.one (K := K) h0
    refine ⟨dd, dd, p1, p2, sh, sh, _, rfl, ?_⟩
    rw [ev]
    exact q
inductive Els (H : Hp) : List V → List (List Rat) → Prop where
  | nil : Els H [] []
  | cons {v : V} {qs : List Rat} {vs : List V} {qss : List (List Rat)} (e : ∃ a, v = V.ref a ∧ FrL H a qs) (h : Els H vs qss) : Els H (v :: vs) (qs :: qss)
/-- what a ladder is as a thing of lists: its first list, and its last -/
theorem LadR.told {H0 H : Hp} {T : Addr} {a : List Rat} (h : LadR H0 H T a) (l : a.length ≤ 20) : ∃ (c : Str) (els : List V) (qss : List (List Rat)) (F R : Addr) (vF vR : List V) (r ks : List Rat),
    H T = some (.tup (.str c :: els)) ∧ Els H els qss ∧ els.length ≤ 2 ∧ (∃ t, els = .ref F :: t) ∧ (∃ t, els = t ++ [.ref R]) ∧ H0 F = none ∧ H0 R = none ∧ H F = some (.lst vF) ∧ vF.length ≤ 20 ∧ H R = some (.lst vR) ∧ Fin_ r ∧ (∀ k ∈ ks, Ins k) ∧ raise r ks = a ∧ ladDat r ks = .tuple (.str c :: llD qss) := by
  obtain ⟨R, ks, nR, fR, ik, ⟨e, er⟩ | ⟨L, r, e, nL, nLR, fL, l2, f, er⟩⟩ := h
  · obtain ⟨vR, eR, lR, -⟩ := fR.len
    have el := congrArg List.length er
    rw [raise_len] at el
    exact ⟨_, _, [ks], R, R, vR, vR, [1], ks, e, .cons ⟨R, rfl, fR⟩ .nil, by show 1 ≤ 2; decide, ⟨_, rfl⟩, ⟨[], rfl⟩, nR, nR, eR, by omega, eR, .inl rfl, ik, er, rfl⟩
  · obtain ⟨vR, eR, lR, -⟩ := fR.len
    obtain ⟨vL, eL, lL, -⟩ := fL.len
    have el := congrArg List.length er
    rw [raise_len] at el
    refine ⟨_, _, [r, ks], L, R, vL, vR, r, ks, e, .cons ⟨L, rfl, fL⟩ (.cons ⟨R, rfl, fR⟩ .nil), by show 2 ≤ 2; decide, ⟨_, rfl⟩, ⟨[.ref L], rfl⟩, nL, nR, eL, by omega, eR, f, ik, er, ?_⟩
    unfold ladDat
    rw [if_neg (by omega)]
    rfl
theorem Els.len {H : Hp} {vs : List V} {qss : List (List Rat)} (h : Els H vs qss) : vs.length = qss.length := by
  induction h with
  | nil => rfl
  | cons _ _ ih => rw [List.length_cons, List.length_cons, ih]
theorem Els.same {H H' : Hp} {vs : List V} {qss : List (List Rat)} (h : Els H vs qss) (s : Same H H') : Els H' vs qss := by
  induction h with
  | nil => exact .nil
  | cons e _ ih =>
    obtain ⟨a, e, f⟩ := e
    exact .cons ⟨a, e, f.same s⟩ ih
theorem Els.get {H : Hp} : ∀ {vs : List V} {qss : List (List Rat)} {i : Nat} {v : V}, Els H vs qss → vs[i]? = some v → ∃ (a : Addr) (qs : List Rat), v = .ref a ∧ FrL H a qs ∧ qss[i]? = some qs
  | [], _, _, _, _, e => by cases e
  | _ :: vs, _, 0, v, .cons ⟨a, e1, f⟩ _, e => by
    cases e
    exact ⟨a, _, e1, f, rfl⟩
  | _ :: vs, _, i + 1, v, .cons _ h, e => by
    obtain ⟨a, qs, e1, f, e2⟩ := Els.get h e
    exact ⟨a, qs, e1, f, e2⟩
/-- copies of lists, none of which was there -/
inductive Cops (G X : Hp) : List V → List (List Rat) → Prop where
  | nil : Cops G X [] []
  | cons {v : V} {qs : List Rat} {vs : List V} {qss : List (List Rat)} (e : ∃ a, v = V.ref a ∧ G a = none ∧ FrL X a qs) (h : Cops G X vs qss) : Cops G X (v :: vs) (qs :: qss)
theorem Cops.mono {G X X' : Hp} {vs : List V} {qss : List (List Rat)} (h : Cops G X vs qss) (f : ∀ a qs, G a = none → FrL X a qs → FrL X' a qs) : Cops G X' vs qss := by
  induction h with
  | nil => exact .nil
  | cons e _ ih =>
    obtain ⟨a, e, n, fa⟩ := e
    exact .cons ⟨a, e, n, f _ _ n fa⟩ ih
theorem Cops.snoc {G X : Hp} {vs : List V} {qss : List (List Rat)} {a : Addr} {qs : List Rat} (h : Cops G X vs qss) (n : G a = none) (f : FrL X a qs) : Cops G X (vs ++ [.ref a]) (qss ++ [qs]) := by
  induction h with
  | nil => exact .cons ⟨a, rfl, n, f⟩ .nil
  | cons e _ ih => exact .cons e ih
theorem Cops.dp {K : PySem.W.Frag} {G X : Hp} {vs : List V} {qss : List (List Rat)} (h : Cops G X vs qss) : DpAll K X vs (llD qss) := by
  induction h with
  | nil => exact .nil
  | cons e _ ih =>
    obtain ⟨a, rfl, n, fa⟩ := e
    exact .cons fa.dp ih
theorem FrL.but {X : Hp} {a F : Addr} {qs : List Rat} {xs : List V} {o : HO} (h : FrL X a qs) (n : a ≠ F) (hF : X F = some (.lst xs)) : FrL (upd X F o) a qs := by
  obtain ⟨vs, e, r⟩ := h
  exact ⟨vs, by rw [upd_ne n]; exact e, PrsAt.but r SameBut.upd hF⟩
theorem cut_one (x : V) (xs : List V) : cutV (x :: xs) (some 1) none = xs := by
  unfold cutV
  have e1 : HT.sIx (x :: xs).length 0 (some 1) = min 1 (x :: xs).length := HT.sIx_nat _ _ 1
  have e2 : HT.sIx (x :: xs).length (x :: xs).length none = (x :: xs).length := rfl
  rw [e1, e2, List.length_cons, show min 1 (xs.length + 1) = 1 by omega, List.drop_succ_cons, List.drop_zero, Nat.add_sub_cancel, List.take_length]
theorem cut_real (x : V) (xs : List V) : ¬ (HT.sIx (x :: xs).length 0 (some 1) = 0 ∧ HT.sIx (x :: xs).length (x :: xs).length none = (x :: xs).length) := fun z => by
  have e1 : HT.sIx (x :: xs).length 0 (some 1) = min 1 (x :: xs).length := HT.sIx_nat _ _ 1
  rw [e1, List.length_cons] at z
  omega
section
variable {P : Program} {w : World} {K : PySem.W.Frag} {mg : Str → Option Value} {base : Heap}
theorem sc_law : FnScope ["_law_script", "_law_cell", "_law_well_here", "_law_bottom_here", "_law_due", "_law_handed", "_law_told", "_law_kept", "_law_some", "_law_ks", "_law_given", "_law_turn", "_law_made", "_law_k", "_law_one_here"] ["_law_script"] (defScope s_law) := ⟨rfl, rfl, rfl, by decide +kernel, rfl, by decide +kernel, by decide +kernel⟩
theorem ok_law {f : Addr} {fd : FuncData} (F : Fun K "law" "law" s_law f fd) (z : Zs mg) (c__law_cell_at : Cal P w K mg base 1 "_law_cell_at" ["_law_script", "_law_k"] (spCell K)) (c__law_well : Cal P w K mg base 1 "_law_well" ["_law_cell"] spWell) (c__law_draw : Cal P w K mg base 1 "_law_draw" ["_law_well_here", "_law_many"] spDraw) (c__law_place : Cal P w K mg base 2 "_law_place" ["_law_well_here", "_law_kind"] spPlace) (c__law_raised : Cal P w K mg base 3 "_law_raised" ["_law_rest", "_law_ks"] spLRais) (c__law_plain : Cal P w K mg base 3 "_law_plain" ["_law_told"] spPlL) (c__law_right : Cal P w K mg base 4 "_law_right" ["_law_bottom_here", "_law_told"] spRight) (c__law_bottom : Cal P w K mg base 4 "_law_bottom" ["_law_well_here", "_law_way"] spBottom) (c_ladder : Cal P w K mg base 6 "ladder" ["bottom"] spLadder) (c_raised : Cal P w K mg base 5 "raised" ["rest", "ks"] spRais) : FnOk P w K mg base CX0 7 f fd ["_law_script"] (spLaw K) := by
  refine F.ok sc_law (fun vs H Q E h => ?_) (fun cdv A outer s H vs Q E hr h => ?_)
  · obtain ⟨a, ns, rfl, _⟩ := h
    rfl
  · obtain ⟨a, ns, rfl, hS, hn, q⟩ := h
    refine ⟨_, (pss_cons (ps_for PassesOwn.never rfl (pi_list (pe_op op_cat (pe_lst (pa_cons (pe_cal c__law_cell_at hr (pa_cons (pv 0) (pa_cons pe_int pa_nil))) pa_nil)) (pe_slice sl_list (pv 0) (po_some pe_int) (po_some pe_int)))) (pg_name (i := 1) sc_law.nd rfl (.inl rfl)) (pss_cons (ps_set (i := 2) sc_law.nd rfl (.inr rfl) (pe_cal c__law_well hr (pa_cons (pv 1) pa_nil)))
      (pss_cons (ps_asg (pe_cal c__law_bottom hr (pa_cons (pv 2) (pa_cons (pe_cal c__law_draw hr (pa_cons (pv 2) (pa_cons pe_int pa_nil))) pa_nil))) (pg_tup (by rfl) (pgs_cons (pg_name (i := 3) sc_law.nd rfl (.inl rfl)) (pgs_cons (pg_name (i := 4) sc_law.nd rfl (.inl rfl)) pgs_nil))))
      (pss_cons (ps_set (i := 5) sc_law.nd rfl (.inl rfl) (pe_callTy call_list_of (by rfl) z.list (by decide +kernel) (pa_cons (pv 3) pa_nil)))
      (pss_cons (ps_set (i := 6) sc_law.nd rfl (.inl rfl) (pe_cal c_ladder hr (pa_cons (pv 5) pa_nil)))
      (pss_cons (ps_if (PW.pt (pw_or (pt_not (pt_val (pe_cal c__law_right hr (pa_cons (pv 3) (pa_cons (pv 6) pa_nil))))) (pw_or (PW.pt (pw_and (pt_cmpR op_notN (pv 4) pe_non (nomark _)) (pw_and1 (pt_cmpR (op_neD hr.units) (pv 6) (pv 4) (nomark _))))) (pw_or1 (pt_cmpR (op_neD hr.units) (pv 5) (pv 3) (nomark _)))))) (pss_one (ps_ret pe_bl)) pss_nil)
      (pss_cons (ps_set (i := 7) sc_law.nd rfl (.inl rfl) (pe_op op_catT (pe_tup (pa_cons (pe_ix ix_tup (pv 6) pe_int (fun _ _ => rfl)) pa_nil)) (pe_callTy call_tuple_of (by rfl) z.tuple (by decide +kernel) (pa_cons (pe_lc (own := [("_law_one_here", 14)]) (g := gName 14) (tt := tYes) (te := (tCB (fun xs H Q => ∃ p ys, xs = [V.ref p] ∧ (SqL K H p ys ∨ SqT K H p ys) ∧ ∀ l, H l = none → Q (.ref l) (upd H l (.lst ys))) (tCons (tVar 14) tNil))) (by rfl) sc_law.nd (pi_tup (pe_slice sl_tupA (pv 6) (po_some pe_int) po_none)) (blkOk_by (own := [("_law_one_here", 14)]) (N := ["_law_script", "_law_cell", "_law_well_here", "_law_bottom_here", "_law_due", "_law_handed", "_law_told", "_law_kept", "_law_some", "_law_ks", "_law_given", "_law_turn", "_law_made", "_law_k", "_law_one_here"]) (sc := defScope s_law) (by decide +kernel)) (fun _ _ _ _ _ => by exact (pg_name (i := 14) sc_law.nd rfl (.inl rfl))) (fun _ _ _ _ _ => by exact pts_nil) (fun _ _ _ _ _ => by exact (pe_callTy call_list_of (by rfl) z.list (by decide +kernel) (pa_cons (pv 14) pa_nil)))) pa_nil))))
      (pss_cons (ps_expr (pe_bm PySem.F.plainAttrs_list PySem.F.slot_list_append PySem.F.type_list_append mt_append (pe_ix ix_tup (pv 6) pe_int (fun _ _ => rfl)) (pa_cons pe_int pa_nil)))
      (pss_cons (ps_expr (pe_bm0 PySem.F.plainAttrs_list PySem.F.slot_list_reverse PySem.F.type_list_reverse mt_reverse (pe_ix ix_tup (pv 6) (pe_un un_neg pe_int) (fun _ _ => rfl))))
      (pss_cons (ps_if (PW.pt (pw_or (pt_cmpR (op_neD hr.units) (pe_cal c_ladder hr (pa_cons (pv 5) pa_nil)) (pv 7) (nomark _)) (pw_or1 (pt_cmpR (op_neD hr.units) (pv 5) (pv 3) (nomark _))))) (pss_one (ps_ret pe_bl)) pss_nil)
      (pss_cons (ps_setLc (i := 8) (own := [("_law_k", 13)]) (g := gName 13) (tt := tYes) (te := (tCall spPlace [] E0 (tCons (tVar 2) (tCons (tC (.int 0)) tNil)))) (by rfl) sc_law.nd rfl rfl (sw_true rfl rfl rfl (by decide +kernel)) (pi_range1 (by rfl) z.range (pa_cons (pe_op op_add pe_int (pe_cal c__law_draw hr (pa_cons (pv 2) (pa_cons pe_int pa_nil)))) pa_nil)) (blkOk_by (own := [("_law_k", 13)]) (N := ["_law_script", "_law_cell", "_law_well_here", "_law_bottom_here", "_law_due", "_law_handed", "_law_told", "_law_kept", "_law_some", "_law_ks", "_law_given", "_law_turn", "_law_made", "_law_k", "_law_one_here"]) (sc := defScope s_law) (by decide +kernel)) (fun _ _ _ _ _ => by exact (pg_name (i := 13) sc_law.nd rfl (.inl rfl))) (fun _ _ _ _ _ => by exact pts_nil) (fun _ _ _ _ _ => by exact (pe_cal c__law_place hr (pa_cons (pv 2) (pa_cons pe_int pa_nil)))))
      (pss_cons (ps_setLc (i := 9) (own := [("_law_k", 13)]) (g := gName 13) (tt := tYes) (te := (tCall spPlace [] E0 (tCons (tVar 2) (tCons (tC (.int 0)) tNil)))) (by rfl) sc_law.nd rfl rfl (sw_true rfl rfl rfl (by decide +kernel)) (pi_range1 (by rfl) z.range (pa_cons (pe_cal c__law_draw hr (pa_cons (pv 2) (pa_cons pe_int pa_nil))) pa_nil)) (blkOk_by (own := [("_law_k", 13)]) (N := ["_law_script", "_law_cell", "_law_well_here", "_law_bottom_here", "_law_due", "_law_handed", "_law_told", "_law_kept", "_law_some", "_law_ks", "_law_given", "_law_turn", "_law_made", "_law_k", "_law_one_here"]) (sc := defScope s_law) (by decide +kernel)) (fun _ _ _ _ _ => by exact (pg_name (i := 13) sc_law.nd rfl (.inl rfl))) (fun _ _ _ _ _ => by exact pts_nil) (fun _ _ _ _ _ => by exact (pe_cal c__law_place hr (pa_cons (pv 2) (pa_cons pe_int pa_nil)))))
      (pss_cons (ps_set (i := 10) sc_law.nd rfl (.inl rfl) (pe_lst (pa_cons (pe_callTy call_list_of (by rfl) z.list (by decide +kernel) (pa_cons (pv 8) pa_nil)) (pa_cons (pe_callTy call_list_of (by rfl) z.list (by decide +kernel) (pa_cons (pv 9) pa_nil)) pa_nil))))
      (pss_one (ps_for PassesOwn.never rfl (pi_range1 (by rfl) z.range (pa_cons pe_int pa_nil)) (pg_name (i := 11) sc_law.nd rfl (.inl rfl)) (pss_cons (ps_set (i := 12) sc_law.nd rfl (.inl rfl) (pe_cal c_raised hr (pa_cons (pe_ix ix_list (pv 10) pe_int (fun _ _ => rfl)) (pa_cons (pe_ix ix_list (pv 10) pe_int (fun _ _ => rfl)) pa_nil))))
      (pss_cons (ps_if (PW.pt (pw_or (pt_cmpR (op_neD hr.units) (pv 12) (pe_cal c__law_raised hr (pa_cons (pv 8) (pa_cons (pv 9) pa_nil))) (nomark _)) (pw_or (pt_not (pt_val (pe_cal c__law_plain hr (pa_cons (pv 12) pa_nil)))) (pw_or1 (pt_cmpR (op_neD hr.units) (pv 10) (pe_lst (pa_cons (pv 8) (pa_cons (pv 9) pa_nil))) (nomark _)))))) (pss_one (ps_ret pe_bl)) pss_nil)
      (pss_one (ps_expr (pe_bm0 PySem.F.plainAttrs_list PySem.F.slot_list_clear PySem.F.type_list_clear mt_clear (pv 12)))))))))))))))))))))
      (pss_one (ps_ret (pe_cmpR (op_eqD hr.units) (pe_cal c_ladder hr (pa_cons (pe_lst (pa_cons (pe_tup (pa_cons (pe_un un_neg pe_int) (pa_cons pe_int pa_nil))) pa_nil)) pa_nil)) (pe_tup (pa_cons pe_str (pa_cons (pe_lst pa_nil) pa_nil))) (nomark _))))), ?_⟩
    obtain ⟨cs, hcs⟩ := cut_ints ns (some 1) (some 6)
    have hcl := cutV_length (ns.map V.int) (some 1) (some 6)
    rw [List.length_map] at hcl
    refine ⟨_, rfl, a, ns, 0, rfl, hS, (by show 1 ≤ sizeLine; decide), fun l0 h0 => ?_⟩
    have s0 := same_new (o := .lst [V.int (ns.getD 0 0)]) h0
    refine ⟨_, rfl, _, rfl, _, rfl, a, _, rfl, s0.seq hS, fun l1 h1 => ?_⟩
    rw [hcs]
    rw [hcs, List.length_map] at hcl
    have s1 := same_new (o := .lst (cs.map V.int)) h1
    refine ⟨l0, l1, _, _, rfl, rfl, s1 _ _ upd_same, upd_same, Nat.le_trans (show 1 + (cs.map V.int).length ≤ 1000 by rw [List.length_map]; omega) (by decide), fun L hL => ?_⟩
    have eL : [V.int (ns.getD 0 0)] ++ cs.map V.int = (ns.getD 0 0 :: cs).map V.int := rfl
    rw [eL]
    clear eL
    refine ⟨L, rfl, ⟨_, SqL.of upd_same⟩, for_list (K := K) (a := L) (xs := (ns.getD 0 0 :: cs).map V.int) (fun i σ H' => H' L = some (.lst ((ns.getD 0 0 :: cs).map V.int)) ∧ ∃ y1 y2 y3 y4 y5 y6 y7 y8 y9 y10 y11 y12 y13 y14 : Option V, σ = [some (.ref a), y1, y2, y3, y4, y5, y6, y7, y8, y9, y10, y11, y12, y13, y14]) ⟨upd_same, none, none, none, none, none, none, none, none, none, none, none, none, none, none, rfl⟩ (fun i σ H' _ hP => SqL.of hP.1) (fun i x σ H0 hx hP => ?_) (fun σ H' hP => ?_)⟩
    · obtain ⟨l00, y1, y2, y3, y4, y5, y6, y7, y8, y9, y10, y11, y12, y13, y14, rfl⟩ := hP
      rw [List.getElem?_map] at hx
      obtain ⟨cell, _, rfl⟩ := Option.map_eq_some_iff.mp hx
      generalize (ns.getD 0 0 :: cs).map V.int = cells at *
      refine ⟨_, rfl, cell, rfl, fun ww hp H1 s1 w1 => ?_⟩
      have nL : L ≠ ww := ne_of_none l00 hp
      have k1 := s1 _ _ l00
      refine ⟨_, rfl, _, rfl, ww, 0, 4, rfl, w1, by omega, by decide, by decide, fun r2 H2 r20 r21 d2 f2 w2 => ⟨ww, 0 + 1, r2, rfl, w2, by omega, fun Tb bl due qs H3 d3 w3 eTb fb B du => ?_⟩⟩
      refine ⟨Tb, _, rfl, SqT.of eTb, rfl, _, _, rfl, _, _, rfl, rfl, ?_⟩
      have k3 := d3 _ _ nL (d2 _ _ nL k1)
      obtain ⟨vb, eb, lb, hb⟩ := fb.len
      refine ⟨_, rfl, bl, vb, rfl, .inl (SqL.of eb), fun h0 hh0 => ?_⟩
      have C0 := FrL.copy eb fb hh0
      have q0 := same_new (o := .lst vb) hh0
      have k4 := q0 _ _ k3
      have w4 := w3.same q0
      replace fb := fb.same q0
      generalize upd H3 h0 (.lst vb) = H4 at C0 q0 k4 w4 fb ⊢
      obtain ⟨D, bt⟩ := B.bt
      have num3 : (fn qs 0).num.natAbs < 2 ^ 3000 := Nat.lt_trans (B.sz _ (fn0_mem B.l0)).2 (Nat.pow_lt_pow_right (by decide) (by decide))
      refine ⟨_, rfl, h0, qs, D, rfl, C0, B.l0, B.l1, B.f0, bt, num3, B.lo, fun T1 H5 s5 LR => ?_⟩
      have T5 := LR.told (by rw [List.length_map]; exact B.l1)
      refine ⟨_, rfl, _, rfl, bl, T1, qs, H4, rfl, fb.same s5, B.l0, B.l1, B.f0, B.sz, LR, B.lo, fun H6 s6 => ⟨_, rfl, iteF ?_⟩⟩
      have s56 := s5.trans s6
      refine due_no (K := K) rfl rfl (LR.d.same s6) ((du.same q0).same s56) (iteF ?_)
      refine ⟨_, rfl, _, rfl, _, _, (C0.same s56).dp, (fb.same s56).dp, frL_shaped _, frL_shaped _, _, rfl, ?_⟩
      rw [frL_eqv, decide_eq_true rfl]
      refine iteF ?_
      obtain ⟨c, els, qss, F, R, vF, vR, r, ks, eT, hels, l2, ⟨tF, eF'⟩, ⟨tR, eR'⟩, nF, nR, eF, lF, eR, fin, ik, er, ed⟩ := T5
      refine ⟨_, rfl, T1, _, 0, .str c, rfl, rfl, SqT.of (s6 _ _ eT), a0, (by show 1 ≤ sizeLine; decide), fun t1 ht1 => ?_⟩
      have S6 := s5.trans s6
      have eT6 := s6 _ _ eT
      have sA := same_new (o := .tup [.str c]) ht1
      have gA : (upd H6 t1 (.tup [.str c])) t1 = some (.tup [.str c]) := upd_same
      have F6 : H6 F = some (.lst vF) := s6 _ _ eF
      have R6 : H6 R = some (.lst vR) := s6 _ _ eR
      replace hels := hels.same s6
      generalize upd H6 t1 (.tup [.str c]) = X1 at sA gA ⊢
      refine ⟨_, rfl, _, rfl, T1, _, rfl, SqT.of (sA _ _ eT6), (fun z => absurd z (cut_real _ _)), fun _ u hu => ?_⟩
      rw [cut_one]
      have sB := same_new (o := .tup els) hu
      have gB : (upd X1 u (.tup els)) u = some (.tup els) := upd_same
      generalize upd X1 u (.tup els) = X2 at sB gB ⊢
      replace hels := hels.same (sA.trans sB)
      refine ⟨u, rfl, ⟨_, SqT.of gB⟩, fun DD hDD => lc_tup (K := K) (a := u) (xs := els) (fun i X => Same X2 X ∧ ∃ ws, X DD = some (.lst ws) ∧ ws.length = i ∧ Cops (upd X2 DD (.lst [])) X ws (qss.take i)) ⟨same_new hDD, [], upd_same, rfl, .nil⟩ (fun i X _ hP => SqT.of (hP.1 _ _ gB)) (fun i x X hx hP => ?_) (fun X hP => ?_)⟩
      · obtain ⟨sX, ws, hws, lws, cps⟩ := hP
        obtain ⟨a', qa, rfl, fa, eqa⟩ := hels.get hx
        have li := (List.getElem?_eq_some_iff.mp hx).1
        obtain ⟨va, ea, lva, -⟩ := (fa.same sX).len
        refine ⟨rfl, _, rfl, a', _, rfl, .inl (SqL.of ea), fun l hl => ?_⟩
        have sl := same_new (o := .lst va) hl
        have cl := FrL.copy ea (fa.same sX) hl
        have nl : l ≠ DD := fun e => by
          rw [e, hws] at hl
          cases hl
        refine ⟨_, sl _ _ hws, small1000 (by omega), fun b o e => ?_, ws ++ [.ref l], upd_same, by rw [List.length_append, lws]; rfl, ?_⟩
        · rw [upd_ne (ne_of_none e hDD)]
          exact sl _ _ (sX _ _ e)
        · rw [List.take_succ, eqa, Option.toList_some]
          refine (cps.mono fun a qs n f => ?_).snoc ?_ (cl.but nl (sl _ _ hws))
          · have na : a ≠ DD := fun e => by
              rw [e, upd_same] at n
              cases n
            exact (f.same sl).but na (sl _ _ hws)
          · rw [upd_ne nl]
            exact sX.free hl
      obtain ⟨sX, ws, hws, lws, cps⟩ := hP
      rw [List.take_of_length_le (by rw [hels.len]; exact Nat.le_refl _)] at cps
      refine ⟨DD, _, rfl, .inl ⟨SqL.of hws, fun tl htl => ?_⟩⟩
      have sC := same_new (o := .tup ws) htl
      refine ⟨t1, tl, _, _, rfl, rfl, SqT.of (sC _ _ (sX _ _ (sB _ _ gA))), SqT.of upd_same, List.cons_ne_nil _ _, Nat.le_trans (show 1 + ws.length ≤ 1000 by omega) (by decide), (fun z => ?_), fun _ Kp hKp => ?_⟩
      · exfalso
        have : els.length = 0 := by
          rw [← lws, z]
          rfl
        rw [eF'] at this
        cases this
      have sD := same_new (o := .tup ([.str c] ++ ws)) hKp
      have gK : (upd (upd X tl (.tup ws)) Kp (.tup ([.str c] ++ ws))) Kp = some (.tup ([.str c] ++ ws)) := upd_same
      have cp := cps.mono fun a qs _ f => f.same (sC.trans sD)
      have sXX := sX.trans (sC.trans sD)
      have F2 := sB _ _ (sA _ _ F6)
      have R2 := sB _ _ (sA _ _ R6)
      have gone : ∀ {a b : Addr} {o : HO}, X2 b = some o → (upd X2 DD (.lst [])) a = none → a ≠ b := fun {a b o} h n e => by
        rw [e] at n
        by_cases c : b = DD
        · rw [c, upd_same] at n
          cases n
        · rw [upd_ne c, h] at n
          cases n
      generalize upd (upd X tl (.tup ws)) Kp (.tup ([.str c] ++ ws)) = X5 at gK cp sXX ⊢
      have F5 := sXX _ _ F2
      have R5 := sXX _ _ R2
      have T5 := sXX _ _ (sB _ _ (sA _ _ eT6))
      have cl5 : Kp ≠ F := fun e => by
        rw [e, F5] at gK
        cases gK
      have cl6 : Kp ≠ R := fun e => by
        rw [e, R5] at gK
        cases gK
      have nTF : T1 ≠ F := fun e => by
        rw [e, F5] at T5
        cases T5
      have S45 : Same H4 X5 := S6.trans (sA.trans (sB.trans sXX))
      refine ⟨_, rfl, T1, _, 1, .ref F, rfl, rfl, SqT.of T5, by rw [eF']; exact a1, .inl ⟨rfl, _, SqL.of F5⟩, F, vF, .int 7, rfl, rfl, F5, small1000 (by omega), ?_⟩
      have S46 : Same H4 (upd X5 F (.lst (vF ++ [.int 7]))) := fun b o e => by
        rw [upd_ne (ne_of_none e nF)]
        exact S45 _ _ e
      replace cp := cp.mono fun a qs n f => f.but (o := .lst (vF ++ [.int 7])) (gone F2 n) F5
      replace gK : (upd X5 F (.lst (vF ++ [.int 7]))) Kp = _ := (upd_ne cl5).trans gK
      replace T5 : (upd X5 F (.lst (vF ++ [.int 7]))) T1 = _ := (upd_ne nTF).trans T5
      obtain ⟨vR2, R7⟩ : ∃ v, (upd X5 F (.lst (vF ++ [.int 7]))) R = some (.lst v) := by
        by_cases c : R = F
        · rw [c]
          exact ⟨_, upd_same⟩
        · exact ⟨vR, (upd_ne c).trans R5⟩
      generalize upd X5 F (.lst (vF ++ [.int 7])) = X6 at S46 cp gK T5 R7 ⊢
      have lastR : atI (.str c :: els) (-1) = some (.ref R) := by
        rw [eR']
        exact atI_last (.str c :: tR) _
      refine ⟨_, rfl, _, rfl, T1, _, _, .ref R, rfl, rfl, SqT.of T5, lastR, .inl ⟨rfl, _, SqL.of R7⟩, R, vR2, rfl, rfl, R7, ?_⟩
      have S47 : Same H4 (upd X6 R (.lst vR2.reverse)) := fun b o e => by
        rw [upd_ne (ne_of_none e nR)]
        exact S46 _ _ e
      replace cp := cp.mono fun a qs n f => f.but (o := .lst vR2.reverse) (gone R2 n) R7
      replace gK : (upd X6 R (.lst vR2.reverse)) Kp = _ := (upd_ne cl6).trans gK
      generalize upd X6 R (.lst vR2.reverse) = X7 at S47 cp gK ⊢
      replace gK : X7 Kp = some (.tup (.str c :: ws)) := gK
      have dK : Dp K X7 (.ref Kp) (ladDat r ks) := by
        rw [ed]
        exact .tup (SqT.of gK) (.cons (.str _) cp.dp)
      have w7 := w4.same S47
      have fb7 := fb.same S47
      have C7 := C0.same S47
      have k7 := S47 _ _ k4
      clear gone S45 S46 sXX sX cps hws lws sA sB gA gB F6 R6 F2 R2 F5 R5 T5 R7 lastR cl5 cl6 nTF hels eT6 eT
      refine ⟨_, rfl, h0, qs, D, rfl, C7, B.l0, B.l1, B.f0, bt, num3, B.lo, fun T2 H8 s8 LR2 => ?_⟩
      obtain ⟨r', ks', fin', ik', er', dT⟩ := LR2.d.dp (K := K)
      obtain ⟨e1, e2⟩ := raise_one fin' fin _ ks' ks rfl ik' ik (er'.trans er.symm)
      rw [e1, e2] at dT
      clear e1 e2 er' fin' ik' LR2
      have dK8 : Dp K H8 (.ref Kp) (ladDat r ks) := by
        rw [ed]
        exact .tup (SqT.of (s8 _ _ gK)) (.cons (.str _) (cp.mono fun a qs _ f => f.same s8).dp)
      refine ⟨_, rfl, ladDat r ks, ladDat r ks, dT, dK8, ladDat_shaped _ _, ladDat_shaped _ _, _, rfl, ?_⟩
      rw [SeqAt.eqv_refl _ (SeqAt.canLay_of_shaped (ladDat_shaped r ks))]
      refine iteF ?_
      refine ⟨_, rfl, _, rfl, _, _, (C7.same s8).dp, (fb7.same s8).dp, frL_shaped _, frL_shaped _, _, rfl, ?_⟩
      rw [frL_eqv, decide_eq_true rfl]
      refine iteF ?_
      have w8 := w7.same s8
      have k8 := s8 _ _ k7
      clear dK8 dT C7 fb7 w7 k7 dK
      refine ⟨_, rfl, ww, _, 4, rfl, w8, by omega, by decide, by decide, fun r9 H9 r90 r91 d9 f9 w9 => ⟨_, _, rfl, rfl, _, rfl, by omega, by omega, fun DS hDS => ?_⟩⟩
      obtain ⟨n, en⟩ : ∃ n : Nat, 1 + r9 = n := ⟨(1 + r9).toNat, by omega⟩
      rw [en, Int.toNat_natCast]
      have nD := w9.ne hDS
      refine lc_range (lo := 0) (n := n) (fun j H' => PlsAt ww H9 H' _ DS (fun q => Sc 6 18 q) j) (PlsAt.start w9 hDS) (fun j H' hj hP => ?_) (fun HA hP => ?_)
      · refine ⟨rfl, _, rfl, ww, _, _, rfl, hP.2.1, by omega, fun p t b H3 hp d3 w3 f3 b1 b2 t1 k0 => ?_⟩
        exact hP.step hDS nD hp d3 (w3.mono (by omega)) f3 (k0 rfl) (by omega)
      obtain ⟨ss, fS, lS, scS⟩ := hP.list
      have wA := hP.2.1
      have kA := hP.1 _ _ nL (d9 _ _ nL k8)
      clear hP
      refine ⟨_, rfl, ww, _, 4, rfl, wA, by omega, by decide, by decide, fun r10 H10 r100 r101 d10 f10 w10 => ⟨_, rfl, by omega, by omega, fun DK hDK => ?_⟩⟩
      obtain ⟨m, em⟩ : ∃ m : Nat, r10 = m := ⟨r10.toNat, by omega⟩
      rw [em, Int.toNat_natCast]
      have nDK := w10.ne hDK
      refine lc_range (lo := 0) (n := m) (fun j H' => PlsAt ww H10 H' _ DK (fun q => Sc 6 18 q) j) (PlsAt.start w10 hDK) (fun j H' hj hP => ?_) (fun HB hP => ?_)
      · refine ⟨rfl, _, rfl, ww, _, _, rfl, hP.2.1, by omega, fun p t b H3 hp d3 w3 f3 b1 b2 t1 k0 => ?_⟩
        exact hP.step hDK nDK hp d3 (w3.mono (by omega)) f3 (k0 rfl) (by omega)
      obtain ⟨kk, fK, lK, scK⟩ := hP.list
      have kB := hP.1 _ _ nL (d10 _ _ nL kA)
      have fS2 := (fS.well d10 wA nD).well hP.1 w10 nD
      have sz6 : ∀ q : Rat, Sc 6 18 q → q.den ≤ 6 ∧ q.num.natAbs ≤ 18 := fun q h => by
        have h1 : (q.den : Int).natAbs ∣ 6 := Int.natAbs_dvd_natAbs.mpr h.den
        have h2 := Nat.le_of_dvd (by decide) h1
        have h3 := h.num (by decide)
        omega
      have wB := hP.2.1
      clear hP
      obtain ⟨vS, eS, lvS, -⟩ := fS2.len
      refine ⟨_, rfl, DS, vS, rfl, .inl (SqL.of eS), fun c0 hc0 => ?_⟩
      have g0 := same_new (o := .lst vS) hc0
      have D0 := FrL.copy eS fS2 hc0
      obtain ⟨vK, eK, lvK, -⟩ := (fK.same g0).len
      refine ⟨_, rfl, DK, vK, rfl, .inl (SqL.of eK), fun c1 hc1 => ?_⟩
      have g1 := same_new (o := .lst vK) hc1
      have D1 := FrL.copy eK (fK.same g0) hc1
      refine ⟨(by show 2 ≤ sizeLine; decide), fun gv hgv => ?_⟩
      have g2 := same_new (o := .lst [.ref c0, .ref c1]) hgv
      have eG : (upd (upd (upd HB c0 (.lst vS)) c1 (.lst vK)) gv (.lst [.ref c0, .ref c1])) gv = some (.lst [.ref c0, .ref c1]) := upd_same
      replace D0 := D0.same (g1.trans g2)
      replace D1 := D1.same g2
      have gg := g0.trans (g1.trans g2)
      have E0_ := fS2.same gg
      have E1_ := fK.same gg
      have kX := gg _ _ kB
      generalize upd (upd (upd HB c0 (.lst vS)) c1 (.lst vK)) gv (.lst [.ref c0, .ref c1]) = GX at eG D0 D1 E0_ E1_ kX ⊢
      clear g0 g1 g2 gg hc0 hc1 hgv eS eK fS2 fK fS d9 d10 w8 w9 w10 wA wB k8 kA kB
      have szs := raise_szs (r := ss) (D := 6) (B := 18) (by decide) (up (show (6 : Int).natAbs < 2 ^ 3 by decide) (by decide)) (up (show 18 < 2 ^ 5 by decide) (by decide)) scS kk (by omega) scK
      have btm : Btm 6 (ss.map pr) := ⟨by decide, up (show (6 : Int).natAbs < 2 ^ 3 by decide) (by decide), fun p hp => by
        obtain ⟨x, hx, rfl⟩ := List.mem_map.mp hp
        exact ⟨den_ge x, (scS x hx).den, up (Nat.lt_of_le_of_lt (sz6 x (scS x hx)).2 (show 18 < 2 ^ 5 by decide)) (by decide)⟩⟩
      have k20 : ∀ k ∈ kk, k.den < 2 ^ 20 ∧ k.num.natAbs < 2 ^ 20 := fun k hk => by
        have := sz6 k (scK k hk)
        omega
      have kks : ∀ k ∈ kk, Ks k := fun k hk => by
        obtain ⟨h1, h2⟩ := k20 k hk
        exact ⟨up h1 (by decide), up h2 (by decide)⟩
      have rl := raise_len ss kk
      have rsz : ∀ x ∈ raise ss kk, ((x.den : Int)).natAbs < 2 ^ 8500 := fun x hx => by
        have := szs kk.length
        rw [List.take_length] at this
        exact Nat.lt_trans (show ((x.den : Int)).natAbs < 2 ^ 1000 from (this x hx).1) (Nat.pow_lt_pow_right (by decide) (by decide))
      refine ⟨2, rfl, by decide, by decide, for_range (n := 2) (fun i σ H' => Same GX H' ∧ ∃ y11 y12 : Option V, σ = [some (.ref a), some (.int cell), some (.ref ww), some (.ref bl), some due, some (.ref h0), some (.ref T1), some (.ref Kp), some (.ref DS), some (.ref DK), some (.ref gv), y11, y12, y13, y14]) ⟨Same.refl _, y11, y12, rfl⟩ (fun i σ G hi hP => ?_) (fun σ G hP => ?_)⟩
      · obtain ⟨sG, z11, z12, rfl⟩ := hP
        have e1 := sG _ _ eG
        refine ⟨_, rfl, gv, _, 0, .ref c0, rfl, rfl, SqL.of e1, a0, _, rfl, gv, _, 1, .ref c1, rfl, rfl, SqL.of e1, a1, c0, c1, ss, kk, 6, rfl, D0.same sG, D1.same sG, by omega, by omega, by omega, btm, k20, fun M G1 hM s1 fM => ?_⟩
        have U1 := sG.trans s1
        refine ⟨_, rfl, _, rfl, _, rfl, DS, DK, ss, kk, rfl, E0_.same U1, E1_.same U1, by omega, by omega, kks, szs, fun M2 G2 hM2 s2 fM2 => ?_⟩
        refine ⟨_, _, (fM.same s2).dp, fM2.dp, frL_shaped _, frL_shaped _, _, rfl, ?_⟩
        rw [frL_eqv, decide_eq_true rfl]
        refine iteF ?_
        refine ⟨_, rfl, M, _, rfl, fM.same s2, by omega, rsz, fun G3 s3 => ⟨_, rfl, iteF ?_⟩⟩
        have U3 := U1.trans (s2.trans s3)
        refine ⟨_, rfl, _, rfl, _, rfl, (by show 2 ≤ sizeLine; decide), fun l9 hl9 => ?_⟩
        have s9 := same_new (o := .lst [.ref DS, .ref DK]) hl9
        have U4 := U3.trans s9
        refine ⟨.list (llD [ss, kk]), .list (llD [ss, kk]), .lst (SqL.of (U4 _ _ eG)) (.cons (D0.same U4).dp (.cons (D1.same U4).dp .nil)), .lst (SqL.of upd_same) (.cons (E0_.same U4).dp (.cons (E1_.same U4).dp .nil)), ll_shaped _, ll_shaped _, _, rfl, ?_⟩
        rw [ll_eqv]
        refine iteF ?_
        obtain ⟨vM, eM, -, -⟩ := (fM.same (s2.trans (s3.trans s9))).len
        refine ⟨_, rfl, .inl ⟨rfl, _, SqL.of eM⟩, M, vM, rfl, rfl, eM, ?_⟩
        refine ⟨fun b o e => ?_, _, _, rfl⟩
        rw [upd_ne (ne_of_none (sG _ _ e) hM)]
        exact U4 _ _ e
      · obtain ⟨sG, z11, z12, rfl⟩ := hP
        exact ⟨sG _ _ kX, _, _, _, _, _, _, _, _, _, _, _, _, _, _, rfl⟩
    · obtain ⟨l00, y1, y2, y3, y4, y5, y6, y7, y8, y9, y10, y11, y12, y13, y14, rfl⟩ := hP
      refine ⟨_, rfl, (by show 2 ≤ sizeLine; decide), fun p hp => ⟨(by show 1 ≤ sizeLine; decide), fun l hl => ?_⟩⟩
      have s1 := same_new (o := .tup [.int (-3), .int 1]) hp
      have s2 := same_new (o := .lst [.ref p]) hl
      have e2 : ([Rat.divInt (-3) 1].map fun q => q / fn [Rat.divInt (-3) 1] 0) = [1] := by decide +kernel
      refine ⟨l, [Rat.divInt (-3) 1], 1, rfl, ⟨_, upd_same, FrsAt.one (frC (by decide +kernel) (by decide +kernel) (s2 _ _ upd_same))⟩, by decide, by decide, by decide +kernel, ⟨by decide, by decide, fun x hx => ?_⟩, ?_, ?_, fun T H1 s3 LR => ?_⟩
      · rw [List.mem_singleton.mp hx]
        exact ⟨by decide +kernel, by decide +kernel, up (show _ < 2 ^ 3 by decide +kernel) (by decide)⟩
      · exact up (show _ < 2 ^ 3 by decide +kernel) (by decide)
      · rw [e2]
        exact .one
      · refine ⟨(by show 0 ≤ sizeLine; decide), fun l9 h9 => ⟨(by show 2 ≤ sizeLine; decide), fun t9 ht9 => ?_⟩⟩
        have s4 := same_new (o := .lst []) h9
        have s5 := same_new (o := .tup [.str "in", .ref l9]) ht9
        obtain ⟨r, ks, fin, ik, er, dT⟩ := (LR.d.same (s4.trans s5)).dp (K := K)
        rw [e2] at er
        obtain ⟨e3, e4⟩ := raise_one (r' := [1]) fin (.inl rfl) _ ks [] rfl ik (fun k hk => absurd hk List.not_mem_nil) er
        rw [e3, e4] at dT
        refine ⟨ladDat [1] [], ladDat [1] [], dT, .tup (SqT.of upd_same) (.cons (.str _) (.cons (.lst (SqL.of (s5 _ _ upd_same)) .nil) .nil)), ladDat_shaped _ _, ladDat_shaped _ _, ?_⟩
        rw [SeqAt.eqv_refl _ (SeqAt.canLay_of_shaped (ladDat_shaped _ _))]
        exact q _
end
end E1

namespace E1
open PySem PySem.Spec PyProof.Rows L2
theorem all_mk {l : PySem.W.OpenLaw} {w : World} {K : PySem.W.Frag} {h : Heap} {mg : Str → Option Value} {fa : Addr} {A_NOUGHT : Addr} (e_A_NOUGHT : He.ga K "NOUGHT" = A_NOUGHT) (X : K.In h) (G : h.Ns mainGlobals mg) (hfa : mg "law" = some (.ref fa)) (c : SaysY FA FN TS EXB w K) :
    ∃ fd : FuncData, (∀ (s : Shared) (v : Value), BindsTo s fd ⟨[v], []⟩ [("_law_script", v)]) ∧ ∀ base : Heap, K.In base → base.Ns mainGlobals mg → FnOk l.prog w K mg base CX0 7 fa fd ["_law_script"] (spLaw K) := by
  obtain ⟨fd_is_whole, F0_is_whole⟩ := c.t.d.def_ 0 (d := dd_is_whole) rfl
  have F_is_whole : Fun K "is_whole" "is_whole" s_is_whole (He.ga K "is_whole") fd_is_whole := fun_of F0_is_whole
  have k_is_whole := F_is_whole.kp
  have a_is_whole : PySem.W.nsIn K mainGlobals "is_whole" = some (some (.ref (He.ga K "is_whole"))) := He.eqO_ok (c.t.d.fact 0 (f := .glo "is_whole") rfl)
  have b_is_whole := F_is_whole.binds (ps := ["thing"]) fun _ _ _ _ _ _ us hl => match us, hl with | [_], _ => rfl
  obtain ⟨fd_is_fraction, F0_is_fraction⟩ := c.t.d.def_ 1 (d := dd_is_fraction) rfl
  have F_is_fraction : Fun K "is_fraction" "is_fraction" s_is_fraction (He.ga K "is_fraction") fd_is_fraction := fun_of F0_is_fraction
  have k_is_fraction := F_is_fraction.kp
  have a_is_fraction : PySem.W.nsIn K mainGlobals "is_fraction" = some (some (.ref (He.ga K "is_fraction"))) := He.eqO_ok (c.t.d.fact 1 (f := .glo "is_fraction") rfl)
  have b_is_fraction := F_is_fraction.binds (ps := ["thing"]) fun _ _ _ _ _ _ us hl => match us, hl with | [_], _ => rfl
  obtain ⟨fd_shared_divisor, F0_shared_divisor⟩ := c.t.d.def_ 2 (d := dd_shared_divisor) rfl
  have F_shared_divisor : Fun K "shared_divisor" "shared_divisor" s_shared_divisor (He.ga K "shared_divisor") fd_shared_divisor := fun_of F0_shared_divisor
  have k_shared_divisor := F_shared_divisor.kp
  have a_shared_divisor : PySem.W.nsIn K mainGlobals "shared_divisor" = some (some (.ref (He.ga K "shared_divisor"))) := He.eqO_ok (c.t.d.fact 2 (f := .glo "shared_divisor") rfl)
  have b_shared_divisor := F_shared_divisor.binds (ps := ["top", "bottom"]) fun _ _ _ _ _ _ us hl => match us, hl with | [_, _], _ => rfl
  obtain ⟨fd_lowest, F0_lowest⟩ := c.t.d.def_ 3 (d := dd_lowest) rfl
  have F_lowest : Fun K "lowest" "lowest" s_lowest (He.ga K "lowest") fd_lowest := fun_of F0_lowest
  have k_lowest := F_lowest.kp
  have a_lowest : PySem.W.nsIn K mainGlobals "lowest" = some (some (.ref (He.ga K "lowest"))) := He.eqO_ok (c.t.d.fact 3 (f := .glo "lowest") rfl)
  have b_lowest := F_lowest.binds (ps := ["top", "bottom"]) fun _ _ _ _ _ _ us hl => match us, hl with | [_, _], _ => rfl
  obtain ⟨fd_is_fractions, F0_is_fractions⟩ := c.t.d.def_ 4 (d := dd_is_fractions) rfl
  have F_is_fractions : Fun K "is_fractions" "is_fractions" s_is_fractions (He.ga K "is_fractions") fd_is_fractions := fun_of F0_is_fractions
  have k_is_fractions := F_is_fractions.kp
  have a_is_fractions : PySem.W.nsIn K mainGlobals "is_fractions" = some (some (.ref (He.ga K "is_fractions"))) := He.eqO_ok (c.t.d.fact 4 (f := .glo "is_fractions") rfl)
  have b_is_fractions := F_is_fractions.binds (ps := ["thing"]) fun _ _ _ _ _ _ us hl => match us, hl with | [_], _ => rfl
  obtain ⟨fd_common_bottom, F0_common_bottom⟩ := c.t.d.def_ 5 (d := dd_common_bottom) rfl
  have F_common_bottom : Fun K "common_bottom" "common_bottom" s_common_bottom (He.ga K "common_bottom") fd_common_bottom := fun_of F0_common_bottom
  have k_common_bottom := F_common_bottom.kp
  have a_common_bottom : PySem.W.nsIn K mainGlobals "common_bottom" = some (some (.ref (He.ga K "common_bottom"))) := He.eqO_ok (c.t.d.fact 5 (f := .glo "common_bottom") rfl)
  have b_common_bottom := F_common_bottom.binds (ps := ["pairs"]) fun _ _ _ _ _ _ us hl => match us, hl with | [_], _ => rfl
  obtain ⟨fd_cleared, F0_cleared⟩ := c.t.d.def_ 6 (d := dd_cleared) rfl
  have F_cleared : Fun K "cleared" "cleared" s_cleared (He.ga K "cleared") fd_cleared := fun_of F0_cleared
  have k_cleared := F_cleared.kp
  have a_cleared : PySem.W.nsIn K mainGlobals "cleared" = some (some (.ref (He.ga K "cleared"))) := He.eqO_ok (c.t.d.fact 6 (f := .glo "cleared") rfl)
  have b_cleared := F_cleared.binds (ps := ["pairs"]) fun _ _ _ _ _ _ us hl => match us, hl with | [_], _ => rfl
  obtain ⟨fd_is_bottom, F0_is_bottom⟩ := c.t.d.def_ 7 (d := dd_is_bottom) rfl
  have F_is_bottom : Fun K "is_bottom" "is_bottom" s_is_bottom (He.ga K "is_bottom") fd_is_bottom := fun_of F0_is_bottom
  have k_is_bottom := F_is_bottom.kp
  have a_is_bottom : PySem.W.nsIn K mainGlobals "is_bottom" = some (some (.ref (He.ga K "is_bottom"))) := He.eqO_ok (c.t.d.fact 7 (f := .glo "is_bottom") rfl)
  have b_is_bottom := F_is_bottom.binds (ps := ["thing"]) fun _ _ _ _ _ _ us hl => match us, hl with | [_], _ => rfl
  obtain ⟨fd_check_series, F0_check_series⟩ := c.t.d.def_ 8 (d := dd_check_series) rfl
  have F_check_series : Fun K "check_series" "check_series" s_check_series (He.ga K "check_series") fd_check_series := fun_of F0_check_series
  have k_check_series := F_check_series.kp
  have a_check_series : PySem.W.nsIn K mainGlobals "check_series" = some (some (.ref (He.ga K "check_series"))) := He.eqO_ok (c.t.d.fact 8 (f := .glo "check_series") rfl)
  have b_check_series := F_check_series.binds (ps := ["thing"]) fun _ _ _ _ _ _ us hl => match us, hl with | [_], _ => rfl
  obtain ⟨fd_check_bottom, F0_check_bottom⟩ := c.t.d.def_ 9 (d := dd_check_bottom) rfl
  have F_check_bottom : Fun K "check_bottom" "check_bottom" s_check_bottom (He.ga K "check_bottom") fd_check_bottom := fun_of F0_check_bottom
  have k_check_bottom := F_check_bottom.kp
  have a_check_bottom : PySem.W.nsIn K mainGlobals "check_bottom" = some (some (.ref (He.ga K "check_bottom"))) := He.eqO_ok (c.t.d.fact 9 (f := .glo "check_bottom") rfl)
  have b_check_bottom := F_check_bottom.binds (ps := ["thing"]) fun _ _ _ _ _ _ us hl => match us, hl with | [_], _ => rfl
  obtain ⟨fd_is_long, F0_is_long⟩ := c.t.d.def_ 10 (d := dd_is_long) rfl
  have F_is_long : Fun K "is_long" "is_long" s_is_long (He.ga K "is_long") fd_is_long := fun_of F0_is_long
  have k_is_long := F_is_long.kp
  have a_is_long : PySem.W.nsIn K mainGlobals "is_long" = some (some (.ref (He.ga K "is_long"))) := He.eqO_ok (c.t.d.fact 10 (f := .glo "is_long") rfl)
  have b_is_long := F_is_long.binds (ps := ["common"]) fun _ _ _ _ _ _ us hl => match us, hl with | [_], _ => rfl
  obtain ⟨fd_shortened, F0_shortened⟩ := c.t.d.def_ 11 (d := dd_shortened) rfl
  have F_shortened : Fun K "shortened" "shortened" s_shortened (He.ga K "shortened") fd_shortened := fun_of F0_shortened
  have k_shortened := F_shortened.kp
  have a_shortened : PySem.W.nsIn K mainGlobals "shortened" = some (some (.ref (He.ga K "shortened"))) := He.eqO_ok (c.t.d.fact 11 (f := .glo "shortened") rfl)
  have b_shortened := F_shortened.binds (ps := ["numbers"]) fun _ _ _ _ _ _ us hl => match us, hl with | [_], _ => rfl
  obtain ⟨fd_numbers_stepped_down, F0_numbers_stepped_down⟩ := c.t.d.def_ 12 (d := dd_numbers_stepped_down) rfl
  have F_numbers_stepped_down : Fun K "numbers_stepped_down" "numbers_stepped_down" s_numbers_stepped_down (He.ga K "numbers_stepped_down") fd_numbers_stepped_down := fun_of F0_numbers_stepped_down
  have k_numbers_stepped_down := F_numbers_stepped_down.kp
  have a_numbers_stepped_down : PySem.W.nsIn K mainGlobals "numbers_stepped_down" = some (some (.ref (He.ga K "numbers_stepped_down"))) := He.eqO_ok (c.t.d.fact 12 (f := .glo "numbers_stepped_down") rfl)
  have b_numbers_stepped_down := F_numbers_stepped_down.binds (ps := ["numbers"]) fun _ _ _ _ _ _ us hl => match us, hl with | [_], _ => rfl
  obtain ⟨fd_ladder_by_numbers, F0_ladder_by_numbers⟩ := c.t.d.def_ 13 (d := dd_ladder_by_numbers) rfl
  have F_ladder_by_numbers : Fun K "ladder_by_numbers" "ladder_by_numbers" s_ladder_by_numbers (He.ga K "ladder_by_numbers") fd_ladder_by_numbers := fun_of F0_ladder_by_numbers
  have k_ladder_by_numbers := F_ladder_by_numbers.kp
  have a_ladder_by_numbers : PySem.W.nsIn K mainGlobals "ladder_by_numbers" = some (some (.ref (He.ga K "ladder_by_numbers"))) := He.eqO_ok (c.t.d.fact 13 (f := .glo "ladder_by_numbers") rfl)
  have b_ladder_by_numbers := F_ladder_by_numbers.binds (ps := ["numbers"]) fun _ _ _ _ _ _ us hl => match us, hl with | [_], _ => rfl
  obtain ⟨fd_ladder, F0_ladder⟩ := c.t.d.def_ 14 (d := dd_ladder) rfl
  have F_ladder : Fun K "ladder" "ladder" s_ladder (He.ga K "ladder") fd_ladder := fun_of F0_ladder
  have k_ladder := F_ladder.kp
  have a_ladder : PySem.W.nsIn K mainGlobals "ladder" = some (some (.ref (He.ga K "ladder"))) := He.eqO_ok (c.t.d.fact 14 (f := .glo "ladder") rfl)
  have b_ladder := F_ladder.binds (ps := ["bottom"]) fun _ _ _ _ _ _ us hl => match us, hl with | [_], _ => rfl
  obtain ⟨fd_raised_by_numbers, F0_raised_by_numbers⟩ := c.t.d.def_ 15 (d := dd_raised_by_numbers) rfl
  have F_raised_by_numbers : Fun K "raised_by_numbers" "raised_by_numbers" s_raised_by_numbers (He.ga K "raised_by_numbers") fd_raised_by_numbers := fun_of F0_raised_by_numbers
  have k_raised_by_numbers := F_raised_by_numbers.kp
  have a_raised_by_numbers : PySem.W.nsIn K mainGlobals "raised_by_numbers" = some (some (.ref (He.ga K "raised_by_numbers"))) := He.eqO_ok (c.t.d.fact 15 (f := .glo "raised_by_numbers") rfl)
  have b_raised_by_numbers := F_raised_by_numbers.binds (ps := ["numbers", "common", "ks"]) fun _ _ _ _ _ _ us hl => match us, hl with | [_, _, _], _ => rfl
  obtain ⟨fd_raised, F0_raised⟩ := c.t.d.def_ 16 (d := dd_raised) rfl
  have F_raised : Fun K "raised" "raised" s_raised (He.ga K "raised") fd_raised := fun_of F0_raised
  have k_raised := F_raised.kp
  have a_raised : PySem.W.nsIn K mainGlobals "raised" = some (some (.ref (He.ga K "raised"))) := He.eqO_ok (c.t.d.fact 16 (f := .glo "raised") rfl)
  have b_raised := F_raised.binds (ps := ["rest", "ks"]) fun _ _ _ _ _ _ us hl => match us, hl with | [_, _], _ => rfl
  obtain ⟨fd__law_cell_at, F0__law_cell_at⟩ := c.t.d.def_ 17 (d := dd__law_cell_at) rfl
  have F__law_cell_at : Fun K "_law_cell_at" "_law_cell_at" s__law_cell_at (He.ga K "_law_cell_at") fd__law_cell_at := fun_of F0__law_cell_at
  have k__law_cell_at := F__law_cell_at.kp
  have a__law_cell_at : PySem.W.nsIn K mainGlobals "_law_cell_at" = some (some (.ref (He.ga K "_law_cell_at"))) := He.eqO_ok (c.t.d.fact 17 (f := .glo "_law_cell_at") rfl)
  have b__law_cell_at := F__law_cell_at.binds (ps := ["_law_script", "_law_k"]) fun _ _ _ _ _ _ us hl => match us, hl with | [_, _], _ => rfl
  obtain ⟨fd__law_well, F0__law_well⟩ := c.t.d.def_ 18 (d := dd__law_well) rfl
  have F__law_well : Fun K "_law_well" "_law_well" s__law_well (He.ga K "_law_well") fd__law_well := fun_of F0__law_well
  have k__law_well := F__law_well.kp
  have a__law_well : PySem.W.nsIn K mainGlobals "_law_well" = some (some (.ref (He.ga K "_law_well"))) := He.eqO_ok (c.t.d.fact 18 (f := .glo "_law_well") rfl)
  have b__law_well := F__law_well.binds (ps := ["_law_cell"]) fun _ _ _ _ _ _ us hl => match us, hl with | [_], _ => rfl
  obtain ⟨fd__law_draw, F0__law_draw⟩ := c.t.d.def_ 19 (d := dd__law_draw) rfl
  have F__law_draw : Fun K "_law_draw" "_law_draw" s__law_draw (He.ga K "_law_draw") fd__law_draw := fun_of F0__law_draw
  have k__law_draw := F__law_draw.kp
  have a__law_draw : PySem.W.nsIn K mainGlobals "_law_draw" = some (some (.ref (He.ga K "_law_draw"))) := He.eqO_ok (c.t.d.fact 19 (f := .glo "_law_draw") rfl)
  have b__law_draw := F__law_draw.binds (ps := ["_law_well_here", "_law_many"]) fun _ _ _ _ _ _ us hl => match us, hl with | [_, _], _ => rfl
  obtain ⟨fd__law_one, F0__law_one⟩ := c.t.d.def_ 20 (d := dd__law_one) rfl
  have F__law_one : Fun K "_law_one" "_law_one" s__law_one (He.ga K "_law_one") fd__law_one := fun_of F0__law_one
  have k__law_one := F__law_one.kp
  have a__law_one : PySem.W.nsIn K mainGlobals "_law_one" = some (some (.ref (He.ga K "_law_one"))) := He.eqO_ok (c.t.d.fact 20 (f := .glo "_law_one") rfl)
  have b__law_one := F__law_one.binds (ps := ["_law_well_here", "_law_some"]) fun _ _ _ _ _ _ us hl => match us, hl with | [_, _], _ => rfl
  obtain ⟨fd__law_low, F0__law_low⟩ := c.t.d.def_ 21 (d := dd__law_low) rfl
  have F__law_low : Fun K "_law_low" "_law_low" s__law_low (He.ga K "_law_low") fd__law_low := fun_of F0__law_low
  have k__law_low := F__law_low.kp
  have a__law_low : PySem.W.nsIn K mainGlobals "_law_low" = some (some (.ref (He.ga K "_law_low"))) := He.eqO_ok (c.t.d.fact 21 (f := .glo "_law_low") rfl)
  have b__law_low := F__law_low.binds (ps := ["_law_top", "_law_bottom_here"]) fun _ _ _ _ _ _ us hl => match us, hl with | [_, _], _ => rfl
  obtain ⟨fd__law_sum, F0__law_sum⟩ := c.t.d.def_ 22 (d := dd__law_sum) rfl
  have F__law_sum : Fun K "_law_sum" "_law_sum" s__law_sum (He.ga K "_law_sum") fd__law_sum := fun_of F0__law_sum
  have k__law_sum := F__law_sum.kp
  have a__law_sum : PySem.W.nsIn K mainGlobals "_law_sum" = some (some (.ref (He.ga K "_law_sum"))) := He.eqO_ok (c.t.d.fact 22 (f := .glo "_law_sum") rfl)
  have b__law_sum := F__law_sum.binds (ps := ["_law_some"]) fun _ _ _ _ _ _ us hl => match us, hl with | [_], _ => rfl
  obtain ⟨fd__law_place, F0__law_place⟩ := c.t.d.def_ 23 (d := dd__law_place) rfl
  have F__law_place : Fun K "_law_place" "_law_place" s__law_place (He.ga K "_law_place") fd__law_place := fun_of F0__law_place
  have k__law_place := F__law_place.kp
  have a__law_place : PySem.W.nsIn K mainGlobals "_law_place" = some (some (.ref (He.ga K "_law_place"))) := He.eqO_ok (c.t.d.fact 23 (f := .glo "_law_place") rfl)
  have b__law_place := F__law_place.binds (ps := ["_law_well_here", "_law_kind"]) fun _ _ _ _ _ _ us hl => match us, hl with | [_, _], _ => rfl
  obtain ⟨fd__law_rung, F0__law_rung⟩ := c.t.d.def_ 24 (d := dd__law_rung) rfl
  have F__law_rung : Fun K "_law_rung" "_law_rung" s__law_rung (He.ga K "_law_rung") fd__law_rung := fun_of F0__law_rung
  have k__law_rung := F__law_rung.kp
  have a__law_rung : PySem.W.nsIn K mainGlobals "_law_rung" = some (some (.ref (He.ga K "_law_rung"))) := He.eqO_ok (c.t.d.fact 24 (f := .glo "_law_rung") rfl)
  have b__law_rung := F__law_rung.binds (ps := ["_law_well_here"]) fun _ _ _ _ _ _ us hl => match us, hl with | [_], _ => rfl
  obtain ⟨fd__law_raised, F0__law_raised⟩ := c.t.d.def_ 25 (d := dd__law_raised) rfl
  have F__law_raised : Fun K "_law_raised" "_law_raised" s__law_raised (He.ga K "_law_raised") fd__law_raised := fun_of F0__law_raised
  have k__law_raised := F__law_raised.kp
  have a__law_raised : PySem.W.nsIn K mainGlobals "_law_raised" = some (some (.ref (He.ga K "_law_raised"))) := He.eqO_ok (c.t.d.fact 25 (f := .glo "_law_raised") rfl)
  have b__law_raised := F__law_raised.binds (ps := ["_law_rest", "_law_ks"]) fun _ _ _ _ _ _ us hl => match us, hl with | [_, _], _ => rfl
  obtain ⟨fd__law_left, F0__law_left⟩ := c.t.d.def_ 26 (d := dd__law_left) rfl
  have F__law_left : Fun K "_law_left" "_law_left" s__law_left (He.ga K "_law_left") fd__law_left := fun_of F0__law_left
  have k__law_left := F__law_left.kp
  have a__law_left : PySem.W.nsIn K mainGlobals "_law_left" = some (some (.ref (He.ga K "_law_left"))) := He.eqO_ok (c.t.d.fact 26 (f := .glo "_law_left") rfl)
  have b__law_left := F__law_left.binds (ps := ["_law_well_here"]) fun _ _ _ _ _ _ us hl => match us, hl with | [_], _ => rfl
  obtain ⟨fd__law_plain, F0__law_plain⟩ := c.t.d.def_ 27 (d := dd__law_plain) rfl
  have F__law_plain : Fun K "_law_plain" "_law_plain" s__law_plain (He.ga K "_law_plain") fd__law_plain := fun_of F0__law_plain
  have k__law_plain := F__law_plain.kp
  have a__law_plain : PySem.W.nsIn K mainGlobals "_law_plain" = some (some (.ref (He.ga K "_law_plain"))) := He.eqO_ok (c.t.d.fact 27 (f := .glo "_law_plain") rfl)
  have b__law_plain := F__law_plain.binds (ps := ["_law_told"]) fun _ _ _ _ _ _ us hl => match us, hl with | [_], _ => rfl
  obtain ⟨fd__law_by_first, F0__law_by_first⟩ := c.t.d.def_ 28 (d := dd__law_by_first) rfl
  have F__law_by_first : Fun K "_law_by_first" "_law_by_first" s__law_by_first (He.ga K "_law_by_first") fd__law_by_first := fun_of F0__law_by_first
  have k__law_by_first := F__law_by_first.kp
  have a__law_by_first : PySem.W.nsIn K mainGlobals "_law_by_first" = some (some (.ref (He.ga K "_law_by_first"))) := He.eqO_ok (c.t.d.fact 28 (f := .glo "_law_by_first") rfl)
  have b__law_by_first := F__law_by_first.binds (ps := ["_law_bottom_here"]) fun _ _ _ _ _ _ us hl => match us, hl with | [_], _ => rfl
  obtain ⟨fd__law_right, F0__law_right⟩ := c.t.d.def_ 29 (d := dd__law_right) rfl
  have F__law_right : Fun K "_law_right" "_law_right" s__law_right (He.ga K "_law_right") fd__law_right := fun_of F0__law_right
  have k__law_right := F__law_right.kp
  have a__law_right : PySem.W.nsIn K mainGlobals "_law_right" = some (some (.ref (He.ga K "_law_right"))) := He.eqO_ok (c.t.d.fact 29 (f := .glo "_law_right") rfl)
  have b__law_right := F__law_right.binds (ps := ["_law_bottom_here", "_law_told"]) fun _ _ _ _ _ _ us hl => match us, hl with | [_, _], _ => rfl
  obtain ⟨fd__law_bottom, F0__law_bottom⟩ := c.t.d.def_ 30 (d := dd__law_bottom) rfl
  have F__law_bottom : Fun K "_law_bottom" "_law_bottom" s__law_bottom (He.ga K "_law_bottom") fd__law_bottom := fun_of F0__law_bottom
  have k__law_bottom := F__law_bottom.kp
  have a__law_bottom : PySem.W.nsIn K mainGlobals "_law_bottom" = some (some (.ref (He.ga K "_law_bottom"))) := He.eqO_ok (c.t.d.fact 30 (f := .glo "_law_bottom") rfl)
  have b__law_bottom := F__law_bottom.binds (ps := ["_law_well_here", "_law_way"]) fun _ _ _ _ _ _ us hl => match us, hl with | [_, _], _ => rfl
  obtain ⟨fd_law, F0_law⟩ := c.t.d.def_ 31 (d := dd_law) rfl
  have F_law : Fun K "law" "law" s_law (He.ga K "law") fd_law := fun_of F0_law
  have k_law := F_law.kp
  have a_law : PySem.W.nsIn K mainGlobals "law" = some (some (.ref (He.ga K "law"))) := He.eqO_ok (c.t.d.fact 31 (f := .glo "law") rfl)
  have b_law := F_law.binds (ps := ["_law_script"]) fun _ _ _ _ _ _ us hl => match us, hl with | [_], _ => rfl
  obtain ⟨tk_LONGEST_COMMON, gm_LONGEST_COMMON⟩ := He.int_ok X G (c.t.d.fact 32 (f := .int "LONGEST_COMMON" 40000) rfl)
  have gm_NOUGHT : mg "NOUGHT" = some (.ref A_NOUGHT) := by
    rw [← e_A_NOUGHT]
    exact He.glo_ok X G (c.t.d.fact 33 (f := .glo "NOUGHT") rfl)
  have T_NOUGHT : ∀ H, SqT K H A_NOUGHT [V.int 0, V.int 1] := by
    rw [← e_A_NOUGHT]
    exact fun H => He.tupB_ok (ex_at c.more (i := 0) (b := He.tupB K "NOUGHT" [.int 0, .int 1]) rfl) H
  have zf_isinstance : mg "isinstance" = none := He.free_ok X G (c.t.d.fact 34 (f := .free "isinstance") rfl)
  have zf_int : mg "int" = none := He.free_ok X G (c.t.d.fact 35 (f := .free "int") rfl)
  have zf_bool : mg "bool" = none := He.free_ok X G (c.t.d.fact 36 (f := .free "bool") rfl)
  have zf_tuple : mg "tuple" = none := He.free_ok X G (c.t.d.fact 37 (f := .free "tuple") rfl)
  have zf_len : mg "len" = none := He.free_ok X G (c.t.d.fact 38 (f := .free "len") rfl)
  have zf_abs : mg "abs" = none := He.free_ok X G (c.t.d.fact 39 (f := .free "abs") rfl)
  have zf_list : mg "list" = none := He.free_ok X G (c.t.d.fact 40 (f := .free "list") rfl)
  have zf_all : mg "all" = none := He.free_ok X G (c.t.d.fact 41 (f := .free "all") rfl)
  have zf_zip : mg "zip" = none := He.free_ok X G (c.t.d.fact 42 (f := .free "zip") rfl)
  have zf_range : mg "range" = none := He.free_ok X G (c.t.d.fact 43 (f := .free "range") rfl)

  have z : Zs mg := ⟨zf_isinstance, zf_int, zf_bool, zf_tuple, zf_len, zf_abs, zf_list, zf_all, zf_zip, zf_range⟩
  have e := hfa.symm.trans (PySem.W.mg_of X G a_law)
  cases e
  have FL_law : FunD K "law" "law" (defArgs s_law) (defBody s_law) (defScope s_law) [] [] (He.ga K "law") fd_law := F0_law
  have bl := FunD.bindsA (ps := ["_law_script"]) FL_law fun _ _ _ _ _ _ us hl => match us, hl with | [_], _ => rfl
  refine ⟨_, fun s v => bl s [v] rfl, fun base _ _ => ?_⟩
  have c_is_whole : Cal l.prog w K mg base 1 "is_whole" ["thing"] _ := ⟨_, _, PySem.W.mg_of X G a_is_whole, k_is_whole, b_is_whole, ok_is_whole (k := 0) F_is_whole z⟩
  have c_shared_divisor : Cal l.prog w K mg base 1 "shared_divisor" ["top", "bottom"] _ := ⟨_, _, PySem.W.mg_of X G a_shared_divisor, k_shared_divisor, b_shared_divisor, ok_shared_divisor (k := 0) F_shared_divisor z⟩
  have c_lowest : Cal l.prog w K mg base 2 "lowest" ["top", "bottom"] _ := ⟨_, _, PySem.W.mg_of X G a_lowest, k_lowest, b_lowest, ok_lowest F_lowest c_shared_divisor⟩
  have c_is_fraction : Cal l.prog w K mg base 2 "is_fraction" ["thing"] _ := ⟨_, _, PySem.W.mg_of X G a_is_fraction, k_is_fraction, b_is_fraction, ok_is_fraction F_is_fraction z c_is_whole c_shared_divisor⟩
  have c_is_fractions : Cal l.prog w K mg base 3 "is_fractions" ["thing"] _ := ⟨_, _, PySem.W.mg_of X G a_is_fractions, k_is_fractions, b_is_fractions, ok_is_fractions F_is_fractions z c_is_fraction⟩
  have c_common_bottom : Cal l.prog w K mg base 2 "common_bottom" ["pairs"] _ := ⟨_, _, PySem.W.mg_of X G a_common_bottom, k_common_bottom, b_common_bottom, ok_common_bottom F_common_bottom z c_shared_divisor⟩
  have c_cleared : Cal l.prog w K mg base 3 "cleared" ["pairs"] _ := ⟨_, _, PySem.W.mg_of X G a_cleared, k_cleared, b_cleared, ok_cleared F_cleared c_common_bottom⟩
  have c_is_bottom : Cal l.prog w K mg base 4 "is_bottom" ["thing"] _ := ⟨_, _, PySem.W.mg_of X G a_is_bottom, k_is_bottom, b_is_bottom, ok_is_bottom gm_NOUGHT T_NOUGHT F_is_bottom z c_is_fractions⟩
  have c_check_series : Cal l.prog w K mg base 4 "check_series" ["thing"] _ := ⟨_, _, PySem.W.mg_of X G a_check_series, k_check_series, b_check_series, ok_check_series F_check_series c_is_fractions⟩
  have c_check_bottom : Cal l.prog w K mg base 5 "check_bottom" ["thing"] _ := ⟨_, _, PySem.W.mg_of X G a_check_bottom, k_check_bottom, b_check_bottom, ok_check_bottom F_check_bottom c_is_bottom⟩
  have c_is_long : Cal l.prog w K mg base 1 "is_long" ["common"] _ := ⟨_, _, PySem.W.mg_of X G a_is_long, k_is_long, b_is_long, ok_is_long (k := 0) _ gm_LONGEST_COMMON F_is_long⟩
  have c_shortened : Cal l.prog w K mg base 2 "shortened" ["numbers"] _ := ⟨_, _, PySem.W.mg_of X G a_shortened, k_shortened, b_shortened, ok_shortened F_shortened z c_shared_divisor⟩
  have c_numbers_stepped_down : Cal l.prog w K mg base 3 "numbers_stepped_down" ["numbers"] _ := ⟨_, _, PySem.W.mg_of X G a_numbers_stepped_down, k_numbers_stepped_down, b_numbers_stepped_down, ok_numbers_stepped_down F_numbers_stepped_down z c_shortened⟩
  have c_ladder_by_numbers : Cal l.prog w K mg base 4 "ladder_by_numbers" ["numbers"] _ := ⟨_, _, PySem.W.mg_of X G a_ladder_by_numbers, k_ladder_by_numbers, b_ladder_by_numbers, ok_ladder_by_numbers F_ladder_by_numbers z c_shortened c_numbers_stepped_down c_lowest⟩
  have c_ladder : Cal l.prog w K mg base 6 "ladder" ["bottom"] _ := ⟨_, _, PySem.W.mg_of X G a_ladder, k_ladder, b_ladder, ok_ladder F_ladder c_check_bottom c_cleared c_is_long c_ladder_by_numbers⟩
  have c_raised_by_numbers : Cal l.prog w K mg base 3 "raised_by_numbers" ["numbers", "common", "ks"] _ := ⟨_, _, PySem.W.mg_of X G a_raised_by_numbers, k_raised_by_numbers, b_raised_by_numbers, ok_raised_by_numbers F_raised_by_numbers z c_lowest⟩
  have c_raised : Cal l.prog w K mg base 5 "raised" ["rest", "ks"] _ := ⟨_, _, PySem.W.mg_of X G a_raised, k_raised, b_raised, ok_raised F_raised c_check_series c_cleared c_is_long c_raised_by_numbers⟩
  have c__law_cell_at : Cal l.prog w K mg base 1 "_law_cell_at" ["_law_script", "_law_k"] _ := ⟨_, _, PySem.W.mg_of X G a__law_cell_at, k__law_cell_at, b__law_cell_at, ok_cell (k := 0) F__law_cell_at z.len⟩
  have c__law_well : Cal l.prog w K mg base 1 "_law_well" ["_law_cell"] _ := ⟨_, _, PySem.W.mg_of X G a__law_well, k__law_well, b__law_well, ok_well (k := 0) F__law_well z.int⟩
  have c__law_draw : Cal l.prog w K mg base 1 "_law_draw" ["_law_well_here", "_law_many"] _ := ⟨_, _, PySem.W.mg_of X G a__law_draw, k__law_draw, b__law_draw, ok_draw (k := 0) F__law_draw⟩
  have c__law_one : Cal l.prog w K mg base 2 "_law_one" ["_law_well_here", "_law_some"] _ := ⟨_, _, PySem.W.mg_of X G a__law_one, k__law_one, b__law_one, ok__law_one F__law_one z c__law_draw⟩
  have c__law_low : Cal l.prog w K mg base 1 "_law_low" ["_law_top", "_law_bottom_here"] _ := ⟨_, _, PySem.W.mg_of X G a__law_low, k__law_low, b__law_low, ok__law_low (k := 0) F__law_low z⟩
  have c__law_sum : Cal l.prog w K mg base 2 "_law_sum" ["_law_some"] _ := ⟨_, _, PySem.W.mg_of X G a__law_sum, k__law_sum, b__law_sum, ok__law_sum F__law_sum c__law_low⟩
  have c__law_place : Cal l.prog w K mg base 2 "_law_place" ["_law_well_here", "_law_kind"] _ := ⟨_, _, PySem.W.mg_of X G a__law_place, k__law_place, b__law_place, ok__law_place F__law_place c__law_draw c__law_low⟩
  have c__law_rung : Cal l.prog w K mg base 3 "_law_rung" ["_law_well_here"] _ := ⟨_, _, PySem.W.mg_of X G a__law_rung, k__law_rung, b__law_rung, ok__law_rung F__law_rung c__law_draw c__law_low c__law_one⟩
  have c__law_raised : Cal l.prog w K mg base 3 "_law_raised" ["_law_rest", "_law_ks"] _ := ⟨_, _, PySem.W.mg_of X G a__law_raised, k__law_raised, b__law_raised, ok__law_raised F__law_raised z c__law_sum⟩
  have c__law_by_first : Cal l.prog w K mg base 2 "_law_by_first" ["_law_bottom_here"] _ := ⟨_, _, PySem.W.mg_of X G a__law_by_first, k__law_by_first, b__law_by_first, ok__law_by_first F__law_by_first z c__law_low⟩
  have c__law_left : Cal l.prog w K mg base 3 "_law_left" ["_law_well_here"] _ := ⟨_, _, PySem.W.mg_of X G a__law_left, k__law_left, b__law_left, ok__law_left F__law_left z c__law_draw c__law_one c__law_place⟩
  have c__law_plain : Cal l.prog w K mg base 1 "_law_plain" ["_law_told"] _ := ⟨_, _, PySem.W.mg_of X G a__law_plain, k__law_plain, b__law_plain, ok_plainN (k := 0) F__law_plain⟩
  have c__law_plain : Cal l.prog w K mg base 2 "_law_plain" ["_law_told"] _ := ⟨_, _, PySem.W.mg_of X G a__law_plain, k__law_plain, b__law_plain, ok_plainT F__law_plain z c__law_plain c__law_low⟩
  have c__law_plain : Cal l.prog w K mg base 3 "_law_plain" ["_law_told"] _ := ⟨_, _, PySem.W.mg_of X G a__law_plain, k__law_plain, b__law_plain, ok_plainL F__law_plain z c__law_plain c__law_low⟩
  have c__law_right : Cal l.prog w K mg base 4 "_law_right" ["_law_bottom_here", "_law_told"] _ := ⟨_, _, PySem.W.mg_of X G a__law_right, k__law_right, b__law_right, ok__law_right F__law_right z c__law_plain c__law_raised c__law_by_first⟩
  have c__law_bottom : Cal l.prog w K mg base 4 "_law_bottom" ["_law_well_here", "_law_way"] _ := ⟨_, _, PySem.W.mg_of X G a__law_bottom, k__law_bottom, b__law_bottom, ok__law_bottom F__law_bottom z c__law_draw c__law_one c__law_place c__law_rung c__law_left c__law_raised c__law_low⟩
  exact ok_law F_law z c__law_cell_at c__law_well c__law_draw c__law_place c__law_raised c__law_plain c__law_right c__law_bottom c_ladder c_raised

end E1

open PySem PySem.W PySem.Calls PyProof.Rows
set_option maxRecDepth 100000 in
set_option maxHeartbeats 0 in
theorem PySem.Challenge.cw_echobound_k18_ladders_down_and_up_holds : PySem.Challenge.rw_echobound_k18_ladders_down_and_up.Holds := by
  w_on; o_law
  refine HandSHeadRun.head_any (r := OpenLaw.row PySem.Challenge.rw_echobound_k18_ladders_down_and_up) (q := HX.qv) (H := HX.hk) (ob := HX.ob) (M := 1946) (loose := HX.names) (d := HandSHeadRun.topDef (OpenLaw.row PySem.Challenge.rw_echobound_k18_ladders_down_and_up).prog 52) (kwd := []) HX.ob_eq (by kernel_rfl) (fun s => by kernel_rfl) HX.run (by kernel_rfl) (by kernel_rfl) (by kernel_rfl) (by rfl) (by first | assumption | decide +kernel) (by decide +kernel) ⟨rfl, rfl, rfl, rfl, rfl, by decide +kernel⟩ ?hw ?hc
  case hw => w_witness2
  case hc =>
    refine L2.walk_ofE (l := PySem.Challenge.rw_echobound_k18_ladders_down_and_up) (n := 63) (k := 7) (x := "_law_script") (CX := L2.CX0) rfl (by decide) (by kernel_rfl) ⟨rfl, by decide, by decide⟩ ?F (fun _ _ _ _ z => z)
    intro w mg fa h Y G hmg0
    obtain ⟨K, KX, c⟩ := Y
    have hmg : mg ("law" : PySem.Str) = some (.ref fa) := by
      have e : (HandSHeadRun.topDef (OpenLaw.row PySem.Challenge.rw_echobound_k18_ladders_down_and_up).prog 52).name = ("law" : PySem.Str) := by kernel_rfl
      rw [← e]
      exact hmg0
    obtain ⟨fd, hb, hF⟩ := E1.all_mk (l := PySem.Challenge.rw_echobound_k18_ladders_down_and_up) rfl KX G hmg c
    exact ⟨K, fd, E1.spLaw K, KX, hb, fun H a ns hl _ hS => ⟨a, ns, rfl, hS, hl, fun _ => rfl⟩, hF⟩
