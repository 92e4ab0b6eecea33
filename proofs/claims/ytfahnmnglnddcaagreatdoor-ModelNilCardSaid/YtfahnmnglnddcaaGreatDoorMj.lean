/-
  How many were begun: a function is made of it.
-/
import Derived.Test.YtfahnmnglnddcaaGreatDoorMc
import Derived.Test.YtfahnmnglnddcaaGreatDoorMd
namespace Go.Proofs.YtfahnmnglnddcaaGreatDoor
open Go.ChangeShapes Go.WideShapes Go.ChangeAt Go.RowKit
set_option linter.unusedVariables false
theorem info3 : (Tryz.prog.info? 3).map (fun i => (i.zero, i.size, i.bytes)) = some (some (.int .i64 0), 1, 8) := by kernel_rfl
theorem int_add (w : World) (x : Int) : ∃ a c w2, (Builtin.append_ #[61, 61] 61 #[.slice none 0 0, .slice (some ⟨w.heap.size, 0, none⟩) 1 1]).run Tryz.prog (w.alloc (.cells #[.int .i64 x] 3)) = .ok (.slice a 1 c) w2 ∧ Turn (fun _ => False) w w2 := by
  have T1 : Turn (fun _ => False) w (w.alloc (.cells #[.int .i64 x] 3)) := (Turn.refl _ w).alloc _
  obtain ⟨i3, j1, j2, j3, j4⟩ := info_parts' info3
  obtain ⟨v', w2, hrun, ho2, hg, _, hbl⟩ := run_append_own_at (w.alloc (.cells #[.int .i64 x] 3)) w.heap.size 61 61 3 i3 _ 1 8 Tryz.underlying61 j1 j2 j3 j4 rfl (by decide) _ _ _ (World.ownsRow_nil _ _ _ _) ⟨w.heap.size, 0, none⟩ 1 1 [.int .i64 x] rfl
    (fun j u hu => by have := range_new w [.int .i64 x] 3 j u hu; rw [Nat.zero_add] at this; rw [Go.WideShapes.add_plain, Nat.zero_add]; exact this) (fun u hu => by simp at hu; subst hu; rfl) (by unfold maxLen; omega) (by omega) (by rw [World.size_alloc]; omega)
  obtain ⟨a, c, rfl, -⟩ := own_slice ho2
  exact ⟨a, c, w2, hrun, T1.trans ((Turn.refl _ _).grown hg (fun k hk => by simp [Value.ownBlock] at hk))⟩
def BgRel (w : World) (v8 : Value) (wr : World) : Prop := Turn (fun _ => False) w wr ∧ Blk wr w.heap.size 61 ∧ ((v8 = .int .i64 0 ∧ wr.cell? ⟨w.heap.size, 0, none⟩ = some (.slice none 0 0)) ∨ (v8 = .int .i64 1 ∧ ∃ a c, wr.cell? ⟨w.heap.size, 0, none⟩ = some (.slice a 1 c)))
set_option maxRecDepth 100000 in
set_option maxHeartbeats 2000000 in
theorem begun_one (w : World) {g c : Nat} {e : Int} (hR : w.rangeAt g 0 (dn e)) : Calls Tryz.prog 49 #[.slice (some ⟨g, 0, none⟩) 1 c] w fun x w' => (∃ p, x = .returned (.func (.func 84) #[] #[.pointer (some p)])) ∧ Turn (fun _ => False) w w' := by
  have R0 : BgRel w (.int .i64 0) (w.alloc (.cells #[.slice none 0 0] 61)) := ⟨(Turn.refl _ _).alloc _, Blk.new w [.slice none 0 0] 61, .inl ⟨rfl, range_new w [.slice none 0 0] 61 0 _ rfl⟩⟩
  have HR := Lib.hid hR
  have IS := Lib.hid isort_1
  clear hR
  go_enter Tryz.func49, Tryz.ntmps49
  go_wp2_with fail
  go_loopw [8] (fun v8 wr => BgRel w v8 wr) (fun v8 _ => 2 - (intOf v8).toNat)
  case atStart => exact R0
  case round =>
    clear R0
    obtain ⟨T, hB, ⟨rfl, hc⟩ | ⟨rfl, a, c2, hc⟩⟩ := hrel
    · have R0 := Lib.hid (range_turn HR.out T id)
      obtain ⟨W2, hW2, R2, T2, B2, TH⟩ := var_new wr e
      have c2 := (dn_cells R2).2.2.1
      have p0 := T2.cell id hc
      obtain ⟨a, c3, w4, hrun, T4⟩ := int_add W2 0
      have p4 := T4.cell id p0
      have B4 := (hB.turn T2 id).turn T4 id
      have f4 := B4.fz
      have RUN := Lib.hid hrun
      have HW := Lib.hid hW2
      have HT := Lib.hid TH
      have TP := Turn.put w4 w.heap.size 0 (.slice a 1 c3)
      have H4 := Lib.hid (show BgRel w (.int .i64 1) (w4.setCell ⟨w.heap.size, 0, none⟩ (.slice a 1 c3)) from ⟨((T.trans T2).trans T4).comp TP (fun i hi q => by omega), B4.set _ _, .inr ⟨rfl, a, c3, World.cell?_setCell_same _ _ _ p4⟩⟩)
      clear T hW2 R2 T2 B2 TH hB hc hrun T4 B4 TP
      go_upto_region 5 with (first
        | ((with_reducible show wpList _ _ _ ({ dst := some 11, op := Op.load 49 _, type := _, pos := _, after := _, guard := _ } :: _) _ _); refine wpList_load_mid rfl 49 _ rfl g 0 rfl _ _ R0.out Tryz.underlying49 rfl size49 ?_)
        | ((with_reducible show wpList _ _ _ ({ dst := none, op := Op.store 49 _ _, type := _, pos := _, after := _, guard := _ } :: _) _ _); refine wpList_store_mid rfl 49 _ _ rfl wr.heap.size 0 (dn e).toArray rfl rfl HT.out size49 (dn_one e) ?_))
      rw [← (show W2 = (wr.alloc (.cells #[.int .i64 0, .int .i64 0, .int .i64 0, .int .i64 0, .int .i64 0, .int .i64 0, .int .i64 0, .int .i64 0, .int .i64 0, .int .i64 0, .int .i64 0, .int .i64 0, .string ⟨#[]⟩, .int .i64 0, .int .i64 0, .int .i64 0, .int .i64 0, .slice none 0 0] 49)).setCells wr.heap.size 0 (dn e).toArray.toList from HW.out)]
      go_wp2_with (refine rl_append_run (by rfl) _ _ _ (by rfl) (by rfl) (by rfl) RUN.out ?_)
      exact ⟨H4.out, by simp [intOf]⟩
    · have F := Lib.hid T
      clear T hB
      go_wp2_with fail
      with_reducible refine (IS.out _ _ _).mono ?_
      rintro x w5 ⟨⟨v, rfl⟩, rfl⟩
      go_wp2_with fail
      go_ret
      exact ⟨⟨_, rfl⟩, F.out⟩
set_option maxRecDepth 100000 in
theorem begun_none (w : World) (c : Nat) : Calls Tryz.prog 49 #[.slice none 0 c] w fun x w' => (∃ p, x = .returned (.func (.func 84) #[] #[.pointer (some p)])) ∧ Turn (fun _ => False) w w' := by
  have IS := Lib.hid isort_0
  go_enter Tryz.func49, Tryz.ntmps49
  go_wp2_with fail
  have T := Lib.hid (show Turn (fun _ => False) w (w.alloc (.cells #[.slice none 0 0] 61)) from (Turn.refl _ _).alloc _)
  have pc : (w.alloc (.cells #[.slice none 0 0] 61)).cell? ⟨w.heap.size, 0, none⟩ = some (.slice none 0 0) := range_new w [.slice none 0 0] 61 0 _ rfl
  generalize w.alloc (.cells #[.slice none 0 0] 61) = W at *
  go_loopw [8] (fun v8 wr => v8 = .int .i64 0 ∧ wr = W) (fun _ _ => 0)
  case atStart => exact ⟨rfl, rfl⟩
  case round =>
    obtain ⟨rfl, rfl⟩ := hrel
    go_wp2_with fail
    with_reducible refine (IS.out _ _ _).mono ?_
    rintro x w5 ⟨⟨v, rfl⟩, rfl⟩
    go_wp2_with fail
    go_ret
    exact ⟨⟨_, rfl⟩, T.out⟩
end Go.Proofs.YtfahnmnglnddcaaGreatDoor
