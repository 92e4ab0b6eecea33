/-
  The chapter's examples, reckoned.
-/
import Derived.Test.YtadogobdlcionaaDoorSq
namespace Go.Proofs.YtadogobdlcionaaDoor
open Go.ChangeShapes Go.WideShapes Go.ChangeAt Go.RowKit Go.Shelf
set_option linter.unusedVariables false
abbrev exA : ByteArray := ⟨#[115, 101, 113, 32, 65, 32, 97, 44, 66, 43, 98, 32, 119, 104, 101, 114, 101, 32, 40, 97, 46, 120, 41, 45, 49, 60, 35, 98, 32, 119, 105, 116, 104, 105, 110, 32, 53]⟩
abbrev exB : ByteArray := ⟨#[115, 101, 113, 32, 65]⟩
abbrev exP : ByteArray := ⟨#[115, 101, 113, 32, 65, 32, 97, 44, 32, 66, 43, 32, 98, 32, 119, 104, 101, 114, 101, 32, 97, 46, 120, 32, 45, 32, 49, 32, 60, 32, 35, 98, 32, 119, 105, 116, 104, 105, 110, 32, 53]⟩
def exQ : QU := ⟨[⟨0, ⟨#[97]⟩, false, false⟩, ⟨1, ⟨#[98]⟩, true, false⟩], [⟨3, [⟨7, 0, ⟨#[97]⟩, 0⟩, ⟨6, 1, ⟨#[]⟩, 0⟩, ⟨2, 0, ⟨#[]⟩, 0⟩], [⟨8, 0, ⟨#[98]⟩, 0⟩]⟩], 5, false⟩
set_option maxRecDepth 100000 in
theorem parse_a : parseB exA = (exQ, 37, 0) := by kernel_rfl
set_option maxRecDepth 100000 in
theorem parse_b : parseB exB = (zq, 5, 11) := by kernel_rfl
theorem digits_small {u : Nat} (h : u < 10) : Lib.itoa (u : Int) = [UInt8.ofNat (48 + u)] := by
  unfold Lib.itoa
  rw [if_neg (by omega), Int.toNat_natCast, Lib.decDigits, dif_pos h]
theorem itoa1 : Lib.itoa 1 = [49] := digits_small (u := 1) (by decide)
theorem itoa5 : Lib.itoa 5 = [53] := digits_small (u := 5) (by decide)
set_option maxRecDepth 100000 in
theorem leaf1 : leafT ⟨6, 1, ⟨#[]⟩, 0⟩ = ⟨#[49]⟩ := by
  unfold leafT
  rw [if_pos rfl]
  dsimp only
  rw [itoa1]
theorem names_a : nameT ⟨#[97]⟩ = true := by kernel_rfl
theorem names_b : nameT ⟨#[98]⟩ = true := by kernel_rfl
set_option maxRecDepth 100000 in
theorem sum_l : sumT [⟨7, 0, ⟨#[97]⟩, 0⟩, ⟨6, 1, ⟨#[]⟩, 0⟩, ⟨2, 0, ⟨#[]⟩, 0⟩] = some [⟨#[97, 46, 120]⟩, ⟨#[32, 45, 32]⟩, ⟨#[49]⟩] := by
  have n1 : needsT ⟨7, 0, ⟨#[97]⟩, 0⟩ = (0, true) := by kernel_rfl
  have n2 : needsT ⟨6, 1, ⟨#[]⟩, 0⟩ = (0, true) := by kernel_rfl
  have n3 : needsT ⟨2, 0, ⟨#[]⟩, 0⟩ = (2, true) := by kernel_rfl
  have l1 : leafT ⟨7, 0, ⟨#[97]⟩, 0⟩ = ⟨#[97, 46, 120]⟩ := by kernel_rfl
  have e1 : stepT [] ⟨7, 0, ⟨#[97]⟩, 0⟩ = some [([⟨#[97, 46, 120]⟩], 2)] := by unfold stepT; rw [n1, l1]; rfl
  have e2 : stepT [([⟨#[97, 46, 120]⟩], 2)] ⟨6, 1, ⟨#[]⟩, 0⟩ = some [([⟨#[97, 46, 120]⟩], 2), ([⟨#[49]⟩], 2)] := by unfold stepT; rw [n2, leaf1]; rfl
  have e3 : stepT [([⟨#[97, 46, 120]⟩], 2), ([⟨#[49]⟩], 2)] ⟨2, 0, ⟨#[]⟩, 0⟩ = some [([⟨#[97, 46, 120]⟩, ⟨#[32, 45, 32]⟩, ⟨#[49]⟩], 0)] := by unfold stepT; rw [n3]; kernel_rfl
  unfold sumT
  simp only [foldT, e1, e2, e3]
theorem sum_r : sumT [⟨8, 0, ⟨#[98]⟩, 0⟩] = some [⟨#[35, 98]⟩] := by kernel_rfl
set_option maxRecDepth 100000 in
theorem fit_a : QFit exQ := by
  refine ⟨by decide, by decide, fun x hx => ?_, fun x hx => ?_, by decide⟩
  · simp only [exQ, List.mem_cons, List.not_mem_nil, or_false] at hx
    rcases hx with rfl | rfl <;> decide
  · simp only [exQ, List.mem_cons, List.not_mem_nil, or_false] at hx
    subst hx
    refine ⟨by decide, ⟨fun d hd => ?_, fun d hd => ?_⟩, ⟨fun ts q => ?_, fun ts q => ?_⟩⟩
    · simp only [List.mem_cons, List.not_mem_nil, or_false] at hd
      rcases hd with rfl | rfl | rfl <;> exact ⟨by decide, by decide, by decide⟩
    · simp only [List.mem_cons, List.not_mem_nil, or_false] at hd
      subst hd
      exact ⟨by decide, by decide, by decide⟩
    · dsimp only at q
      rw [sum_l] at q
      injection q with q
      subst q
      decide
    · dsimp only at q
      rw [sum_r] at q
      injection q with q
      subst q
      decide
set_option maxRecDepth 100000 in
theorem print_a : printT exQ = exP := by
  have ok : printOk exQ = true := by
    unfold printOk exQ
    dsimp only
    have e1 : elOk ⟨0, ⟨#[97]⟩, false, false⟩ = true := by kernel_rfl
    have e2 : elOk ⟨1, ⟨#[98]⟩, true, false⟩ = true := by kernel_rfl
    have c1 : cnOk ⟨3, [⟨7, 0, ⟨#[97]⟩, 0⟩, ⟨6, 1, ⟨#[]⟩, 0⟩, ⟨2, 0, ⟨#[]⟩, 0⟩], [⟨8, 0, ⟨#[98]⟩, 0⟩]⟩ = true := by
      unfold cnOk
      dsimp only
      rw [sum_l, sum_r]
      rfl
    simp only [List.all_cons, List.all_nil, e1, e2, c1]
    rfl
  unfold printT
  rw [if_pos ok]
  have cn : cnsT exQ.conds = [32, 119, 104, 101, 114, 101, 32, 97, 46, 120, 32, 45, 32, 49, 32, 60, 32, 35, 98] := by
    unfold cnsT exQ cnT
    simp only [List.map_cons, List.map_nil, sum_l, sum_r]
    kernel_rfl
  rw [cn]
  have w5 : Lib.itoa ((exQ.window : Nat) : Int) = [53] := itoa5
  rw [w5]
  rfl
set_option maxRecDepth 100000 in
set_option maxHeartbeats 4000000 in
theorem awake_is (w : World) (hE : ErrAt w) (hT : TabAt w) : Calls Tryd.prog 4 #[] w fun y w' => y = .returned (.bool true) ∧ Turn (fun _ => False) w w' := by
  have PA1 := Lib.hid (parse_is w exA (by decide) hE)
  rw [parse_a] at PA1
  dsimp only at PA1
  have HE := Lib.hid (And.intro hE hT)
  clear hE hT
  go_enter Tryd.func4, Tryd.ntmps4
  go_wp2_with fail
  with_reducible refine PA1.out.mono ?_
  rintro y w1 ⟨x, rfl, hx, T1⟩
  obtain ⟨ev, cv, rfl, hev, hcv⟩ := id hx
  obtain ⟨ea, ec, rfl, -⟩ := own_slice hev
  obtain ⟨ca, cc, rfl⟩ : ∃ a c, cv = .slice a exQ.conds.length c := by
    obtain ⟨xs, ho, -⟩ := hcv
    obtain ⟨a, c, h, -⟩ := own_slice ho
    exact ⟨a, c, h⟩
  obtain ⟨w2, hw2⟩ : ∃ X, X = w1.alloc (.cells #[.slice ea exQ.elems.length ec, .slice ca exQ.conds.length cc, .int .i64 (exQ.window : Int), .bool exQ.byKey] 27) := ⟨_, rfl⟩
  have T2 : Turn (fun _ => False) w1 w2 := by rw [hw2]; exact (Turn.refl _ _).alloc _
  have R2 : w2.rangeAt w1.heap.size 0 (quL (.slice ea exQ.elems.length ec) (.slice ca exQ.conds.length cc) exQ.window exQ.byKey) := by rw [hw2]; exact range_new w1 (quL (.slice ea exQ.elems.length ec) (.slice ca exQ.conds.length cc) exQ.window exQ.byKey) 27
  have PB1 := Lib.hid (parse_is w2 exB (by decide) (HE.out.1.turn (T1.trans T2) id))
  rw [parse_b] at PB1
  dsimp only at PB1
  have F2 := Lib.hid (And.intro hx (And.intro (T1.trans T2) (And.intro R2 T2)))
  have HW2 := Lib.hid hw2
  clear hx hev hcv T1 T2 R2 hw2
  unfold quL
  go_upto_region 2 with fail
  rw [← HW2.out]
  clear HW2
  go_wp2_with fail
  with_reducible refine PB1.out.mono ?_
  rintro y w3 ⟨x, rfl, hz, T3⟩
  obtain ⟨e2, c2, rfl, he2, hc2⟩ := hz
  obtain ⟨e2a, e2c, rfl, -⟩ := own_slice he2
  obtain ⟨c2a, c2c, rfl⟩ : ∃ a c, c2 = .slice a zq.conds.length c := by
    obtain ⟨xs, ho, -⟩ := hc2
    obtain ⟨a, c, h, -⟩ := own_slice ho
    exact ⟨a, c, h⟩
  obtain ⟨w4, hw4⟩ : ∃ X, X = w3.alloc (.cells #[.slice e2a zq.elems.length e2c, .slice c2a zq.conds.length c2c, .int .i64 (zq.window : Int), .bool zq.byKey] 27) := ⟨_, rfl⟩
  have T4 : Turn (fun _ => False) w3 w4 := by rw [hw4]; exact (Turn.refl _ _).alloc _
  have R4 := range_turn F2.out.2.2.1 (T3.trans T4) id
  have d0 := R4 0 _ rfl
  have d1 := R4 1 _ rfl
  have d2 := R4 2 _ rfl
  have d3 := R4 3 _ rfl
  have TT := F2.out.2.1.trans (T3.trans T4)
  have hq4 : quV w.heap.size exQ w4 (.agg (quL (.slice ea exQ.elems.length ec) (.slice ca exQ.conds.length cc) exQ.window exQ.byKey).toArray) := by
    obtain ⟨ev, cv, hv, hev, hcv⟩ := F2.out.1
    exact ⟨ev, cv, hv, own_turn hev (F2.out.2.2.2.trans (T3.trans T4)) (fun _ _ => id), hcv.turn (F2.out.2.2.2.trans (T3.trans T4)) (fun _ _ => id)⟩
  have PR := Lib.hid (print_is w4 hq4 fit_a (HE.out.1.turn TT id) (HE.out.2.turn TT (fun _ _ => id)))
  rw [print_a] at PR
  unfold quL at PR
  have F4 := Lib.hid TT
  have HW4 := Lib.hid hw4
  clear hw4 T3 T4 R4 TT hq4 he2 hc2
  unfold quL
  go_upto_region 3 with fail
  rw [← HW4.out]
  clear HW4
  go_wp2_with fail
  with_reducible refine PR.out.mono ?_
  rintro y w5 ⟨rfl, T5⟩
  have F5 := Lib.hid (F4.out.trans T5)
  clear T5
  go_wp2_with fail
  go_ret
  exact ⟨rfl, F5.out⟩
end Go.Proofs.YtadogobdlcionaaDoor
