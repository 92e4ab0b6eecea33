/-
  Of no desk nothing comes.
-/
import Derived.Test.YtepmealhnnoahaaSd
namespace Go.Proofs.Ytepmealhnnoahaa
set_option linter.unusedSimpArgs false
open Go.ChangeShapes Go.WideShapes Go.ChangeAt Go.RowKit
set_option linter.unusedVariables false
set_option maxRecDepth 100000 in
set_option maxHeartbeats 4000000 in
theorem do_nil (w : World) (k : Int) : Calls Try.prog 13 #[.pointer none, .int .i64 1, .agg (cmdL k 0 0 0 0).toArray, .slice none 0 0] w fun e w' => e = .returned (.tuple #[.agg #[.int .i64 1, .int .i64 0, .slice none 0 0], .slice none 0 0]) ∧ Turn (fun _ => False) w w' := by
  obtain ⟨W0, hW0⟩ : ∃ W0, W0 = (w.alloc (.cells (cmdL k 0 0 0 0).toArray 43)).alloc (.cells #[.int .i64 0, .int .i64 0, .slice none 0 0] 53) := ⟨_, rfl⟩
  have T0 : Turn (fun _ => False) w W0 := by rw [hW0]; exact ((Turn.refl _ w).alloc _).alloc _
  have B8 : Blk W0 (w.heap.size + 1) 53 := by
    rw [hW0]
    have := Blk.new (w.alloc (.cells (cmdL k 0 0 0 0).toArray 43)) [.int .i64 0, .int .i64 0, .slice none 0 0] 53
    simpa using this
  have R8 : W0.rangeAt (w.heap.size + 1) 0 [.int .i64 0, .int .i64 0, .slice none 0 0] := by
    rw [hW0]
    have := range_new (w.alloc (.cells (cmdL k 0 0 0 0).toArray 43)) [.int .i64 0, .int .i64 0, .slice none 0 0] 53
    simpa using this
  have TH := Lib.hid (show W0.there (w.heap.size + 1) 0 3 from range_there R8 rfl B8)
  have FIN := Lib.hid (show Turn (fun _ => False) w (W0.setCells (w.heap.size + 1) 0 [.int .i64 1, .int .i64 0, .slice none 0 0]) from T0.comp (Turn.setCells _ 0 (show Turn (fun q => q = w.heap.size + 1) _ _ from Turn.refl _ _) (.inl rfl)) (fun k hk e => by omega))
  clear T0 B8 R8
  unfold cmdL at hW0 ⊢
  go_enter Try.func13, Try.ntmps13
  go_upto_region 1 with fail
  rw [← hW0]
  clear hW0
  generalize w.heap.size + 1 = b8 at *
  go_upto_region 2 with fail
  refine wp_region_lit ?_
  refine rl_build rfl 53 _ rfl (vs := #[(0, .int .i64 1)]) (v := .agg #[.int .i64 1, .int .i64 0, .slice none 0 0]) (by simp [Act.eval]) (build53e 1 _) ?_
  try simp only [Act.put, List.setIfInBounds_toArray, List.set_cons_zero, List.set_cons_succ]
  refine wpList_store_mid rfl 53 _ _ rfl b8 0 #[.int .i64 1, .int .i64 0, .slice none 0 0] rfl rfl TH.out size53 (by simp [Value.oneCell']) ?_
  try simp only [Act.put, List.setIfInBounds_toArray, List.set_cons_zero, List.set_cons_succ]
  go_wp2_with fail
  exact bodyPost_ret (v := .tuple #[.agg #[.int .i64 1, .int .i64 0, .slice none 0 0], .slice none 0 0]) (res_cell_tmp (a := 8) (k := 9) rfl rfl rfl (run_loadVar_mid _ b8 0 53 _ _ (World.rangeAt_setCells_same _ b8 0 _ TH.out) Try.underlying53 rfl size53)) rfl ⟨rfl, FIN.out⟩
set_option maxRecDepth 100000 in
theorem nil_held (w : World) : Calls Try.prog 17 #[.pointer none] w fun e w' => e = .returned (.int .i64 0) ∧ w = w' := by
  go_enter Try.func17, Try.ntmps17
  go_wp2
  go_ret
  exact ⟨rfl, rfl⟩
def okC (qu ou : Int) : Bool := decide (1 ≤ qu ∧ qu ≤ 4096 ∧ 1 ≤ ou ∧ ou ≤ 4096)
theorem new_any (w : World) (a b c e s qu ou : Int) : Calls Try.prog 10 #[.agg #[.int .i64 a, .int .i64 b, .int .i64 c, .int .i64 qu, .int .i64 e, .int .i64 ou, .int .i64 s]] w fun en w' => ∃ p : Option Addr, en = .returned (.pointer p) ∧ p.isSome = okC qu ou ∧ Turn (fun _ => False) w w' := by
  unfold okC
  by_cases h : 1 ≤ qu ∧ qu ≤ 4096 ∧ 1 ≤ ou ∧ ou ≤ 4096
  · refine (new_yes w a b c e s h.1 h.2.1 h.2.2.1 h.2.2.2).mono ?_
    rintro en w' ⟨d, mb, rfl, _, _, _, T⟩
    exact ⟨_, rfl, by simp [h], T⟩
  · refine (new_no w a b c e s h).mono ?_
    rintro en w' ⟨rfl, T⟩
    exact ⟨_, rfl, by rw [decide_eq_false h]; rfl, T⟩
set_option maxRecDepth 100000 in
set_option maxHeartbeats 8000000 in
theorem nil_walk (sh ib sl qu ru ou st k : Int) (w : World) : Calls Try.prog 7 #[.agg #[.int .i64 sh, .int .i64 ib, .int .i64 sl, .int .i64 qu, .int .i64 ru, .int .i64 ou, .int .i64 st], .int .i64 k] w fun e w' => e = .returned (.bool true) ∧ Below w.heap.size w w' := by
  obtain ⟨W, hW⟩ : ∃ W, W = w.alloc (.cells #[.int .i64 sh, .int .i64 ib, .int .i64 sl, .int .i64 qu, .int .i64 ru, .int .i64 ou, .int .i64 st] 28) := ⟨_, rfl⟩
  have T1 : Turn (fun _ => False) w W := by rw [hW]; exact (Turn.refl _ w).alloc _
  have C : W.rangeAt w.heap.size 0 [.int .i64 sh, .int .i64 ib, .int .i64 sl, .int .i64 qu, .int .i64 ru, .int .i64 ou, .int .i64 st] := by rw [hW]; exact range_new w [.int .i64 sh, .int .i64 ib, .int .i64 sl, .int .i64 qu, .int .i64 ru, .int .i64 ou, .int .i64 st] 28
  have K := Lib.hid (And.intro T1 C)
  have DN := do_nil W k
  unfold cmdL at DN
  have DN := Lib.hid DN
  clear T1 C
  go_enter Try.func7, Try.ntmps7
  go_upto_region 1 with fail
  rw [← hW]
  clear hW
  generalize hb1 : w.heap.size = b1 at *
  go_wp2_with fail
  with_reducible refine DN.out.mono ?_
  clear DN
  rintro en w2 ⟨rfl, T2⟩
  have TA : Turn (fun _ => False) w2 (w2.alloc (.cells #[.int .i64 1, .int .i64 0, .slice none 0 0] 53)) := (Turn.refl _ w2).alloc _
  have RA : (w2.alloc (.cells #[.int .i64 1, .int .i64 0, .slice none 0 0] 53)).rangeAt w2.heap.size 0 [.int .i64 1, .int .i64 0, .slice none 0 0] := range_new w2 [.int .i64 1, .int .i64 0, .slice none 0 0] 53
  go_upto_region 3 with fail
  generalize (w2.alloc (.cells #[.int .i64 1, .int .i64 0, .slice none 0 0] 53)) = w3 at *
  generalize w2.heap.size = ba at *
  have TC := K.out.1.trans (T2.trans TA)
  have C3 := range_turn K.out.2 (T2.trans TA) id
  have x3 : w3.cell? ⟨b1, 3, none⟩ = some (.int .i64 qu) := C3 3 _ rfl
  have x5 : w3.cell? ⟨b1, 5, none⟩ = some (.int .i64 ou) := C3 5 _ rfl
  have K2 := Lib.hid (And.intro TC (And.intro RA C3))
  clear T2 TA RA TC C3 K
  go_cut [8] from 10 (fun v8 wx => v8 = .bool (okC qu ou) ∧ wx = w3)
  case first =>
    by_cases h1 : 1 ≤ qu
    · by_cases h2 : qu ≤ 4096
      · by_cases h3 : 1 ≤ ou
        · by_cases h4 : ou ≤ 4096
          · have e1 : okC qu ou = true := decide_eq_true ⟨h1, h2, h3, h4⟩
            go_wp2_with fail
            go_meet
            case rel => exact ⟨by rw [e1], rfl⟩
          · have e1 : okC qu ou = false := decide_eq_false (fun h => h4 h.2.2.2)
            go_wp2_with fail
            go_meet
            case rel => exact ⟨by rw [e1], rfl⟩
        · have e1 : okC qu ou = false := decide_eq_false (fun h => h3 h.2.2.1)
          go_wp2_with fail
          go_meet
          case rel => exact ⟨by rw [e1], rfl⟩
      · have e1 : okC qu ou = false := decide_eq_false (fun h => h2 h.2.1)
        go_wp2_with fail
        go_meet
        case rel => exact ⟨by rw [e1], rfl⟩
    · have e1 : okC qu ou = false := decide_eq_false (fun h => h1 h.1)
      go_wp2_with fail
      go_meet
      case rel => exact ⟨by rw [e1], rfl⟩
  case rest =>
  obtain ⟨rfl, rfl⟩ := hcut
  clear x3 x5
  have AW := Lib.hid queue_awake
  have NW := Lib.hid nil_waiting
  have NH := Lib.hid nil_held
  have NV := Lib.hid nil_live
  have NL := Lib.hid nil_lost
  have NN := Lib.hid (fun w => new_any w sh ib sl ru st qu ou)
  generalize okC qu ou = B at *
  go_wp2_with fail
  with_reducible refine (AW.out _).mono ?_
  rintro en w4 ⟨rfl, T4⟩
  have ya : w4.cell? ⟨ba, 0, none⟩ = some (.int .i64 1) := range_turn K2.out.2.1 T4 id 0 _ rfl
  have C4 := range_turn K2.out.2.2 T4 id
  have x0 : w4.cell? ⟨b1, 0, none⟩ = some (.int .i64 sh) := C4 0 _ rfl
  have x1 : w4.cell? ⟨b1, 1, none⟩ = some (.int .i64 ib) := C4 1 _ rfl
  have x2 : w4.cell? ⟨b1, 2, none⟩ = some (.int .i64 sl) := C4 2 _ rfl
  have x3 : w4.cell? ⟨b1, 3, none⟩ = some (.int .i64 qu) := C4 3 _ rfl
  have x4 : w4.cell? ⟨b1, 4, none⟩ = some (.int .i64 ru) := C4 4 _ rfl
  have x5 : w4.cell? ⟨b1, 5, none⟩ = some (.int .i64 ou) := C4 5 _ rfl
  have x6 : w4.cell? ⟨b1, 6, none⟩ = some (.int .i64 st) := C4 6 _ rfl
  have K3 := Lib.hid (K2.out.1.trans T4)
  clear K2 T4 C4
  go_wp2_with fail
  with_reducible refine (NW.out _ _).mono ?_
  rintro en w5 ⟨rfl, rfl⟩
  go_wp2_with fail
  with_reducible refine (NH.out _).mono ?_
  rintro en w5 ⟨rfl, rfl⟩
  go_wp2_with fail
  with_reducible refine (NV.out _).mono ?_
  rintro en w5 ⟨rfl, rfl⟩
  go_wp2_with fail
  with_reducible refine (NL.out _ _).mono ?_
  rintro en w5 ⟨rfl, rfl⟩
  go_wp2_with fail
  with_reducible refine (NN.out _).mono ?_
  rintro en w6 ⟨p, rfl, hp, T6⟩
  have F := Lib.hid (K3.out.trans T6)
  have HP := Lib.hid hp
  clear T6 x0 x1 x2 x3 x4 x5 x6 ya K3 hp
  go_wp2_with fail
  go_ret
  rw [HP.out]
  exact ⟨by simp, F.out.below (fun k hk => ⟨hk, id⟩)⟩
end Go.Proofs.Ytepmealhnnoahaa
