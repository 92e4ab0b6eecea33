/-
  Those of a row of one call that are so.
-/
import Derived.Test.YtfahnmnglnddcaaGreatDoorMb
import Derived.Maps.AppendAt
namespace Go.Proofs.YtfahnmnglnddcaaGreatDoor
open Go.ChangeShapes Go.WideShapes Go.ChangeAt Go.RowKit
set_option linter.unusedVariables false
def z49 : List Value := [.int .i64 0, .int .i64 0, .int .i64 0, .int .i64 0, .int .i64 0, .int .i64 0, .int .i64 0, .int .i64 0, .int .i64 0, .int .i64 0, .int .i64 0, .int .i64 0, .string ⟨#[]⟩, .int .i64 0, .int .i64 0, .int .i64 0, .int .i64 0, .slice none 0 0]
theorem info49 : (Tryz.prog.info? 49).map (fun i => (i.zero, i.size, i.bytes)) = some (some (.agg z49.toArray), 18, 168) := by kernel_rfl
theorem own_weak {w : World} {base base' size n : Nat} {e : TypeId} {v : Value} {xs : List Value} (h : w.ownsRow base e size v n xs) (hb : base' ≤ base) : w.ownsRow base' e size v n xs :=
  ⟨h.1, h.2.imp id (fun ⟨g, cap, cur, e, q, r⟩ => ⟨g, cap, cur, e, Nat.le_trans hb q, r⟩)⟩
/-- A variable of the loop's own, written. -/
theorem var_new (w : World) (e : Int) : ∃ W, W = (w.alloc (.cells z49.toArray 49)).setCells w.heap.size 0 (dn e).toArray.toList ∧ W.rangeAt w.heap.size 0 (dn e) ∧ Turn (fun _ => False) w W ∧ Blk W w.heap.size 49 ∧ (w.alloc (.cells z49.toArray 49)).there w.heap.size 0 (dn e).toArray.size := by
  have B := Blk.new w z49 49
  have R := range_new w z49 49
  have T : Turn (fun _ => False) w (w.alloc (.cells z49.toArray 49)) := (Turn.refl _ _).alloc _
  have TH : (w.alloc (.cells z49.toArray 49)).there w.heap.size 0 18 := range_there R rfl B
  exact ⟨_, rfl, World.rangeAt_setCells_same _ _ _ _ TH, Turn.setCells _ 0 T (.inr (Nat.le_refl _)), B.setCells _ 0, TH⟩
theorem dn_one (e : Int) : (dn e).toArray.all (·.oneCell') = true := by simp [dn, Value.oneCell']
theorem info_parts' {P : Program} {t : TypeId} {z : Value} {n m : Nat} (h : (P.info? t).map (fun i => (i.zero, i.size, i.bytes)) = some (some z, n, m)) : ∃ i, P.info? t = some i ∧ i.zero = some z ∧ i.size = n ∧ i.bytes = m := by
  obtain ⟨i, h1, h2⟩ := Option.map_eq_some_iff.1 h
  simp at h2
  exact ⟨i, h1, h2.1, h2.2.1, h2.2.2⟩
theorem dn_add (w : World) (e : Int) : ∃ v' w2, (Builtin.append_ #[71, 71] 71 #[.slice none 0 0, .slice (some ⟨w.heap.size, 0, none⟩) 1 1]).run Tryz.prog (w.alloc (.cells (dn e).toArray 49)) = .ok v' w2 ∧ w2.ownsRow w.heap.size 49 18 v' 1 (dn e) ∧ Turn (fun _ => False) w w2 := by
  have T1 : Turn (fun _ => False) w (w.alloc (.cells (dn e).toArray 49)) := (Turn.refl _ w).alloc _
  obtain ⟨i3, j1, j2, j3, j4⟩ := info_parts' info49
  obtain ⟨v', w2, hrun, ho2, hg, _, hbl⟩ := run_append_own_at (w.alloc (.cells (dn e).toArray 49)) w.heap.size 71 71 49 i3 _ 18 168 Tryz.underlying71 j1 j2 j3 j4 rfl (by decide) _ _ _ (World.ownsRow_nil _ _ _ _) ⟨w.heap.size, 0, none⟩ 1 1 (dn e) rfl
    (fun j u hu => by have := range_new w (dn e) 49 j u hu; rw [Nat.zero_add] at this; rw [Go.WideShapes.add_plain, Nat.zero_add]; exact this) (fun u hu => by
      simp only [dn, List.mem_cons, List.not_mem_nil, or_false] at hu
      rcases hu with h | h | h | h | h | h | h | h | h | h | h | h | h | h | h | h | h | h <;> subst h <;> rfl) (by unfold maxLen; omega) (by omega) (by rw [World.size_alloc]; omega)
  exact ⟨v', w2, hrun, ho2, T1.trans ((Turn.refl _ _).grown hg (fun k hk => by simp [Value.ownBlock] at hk))⟩
/-- Behind 0 or 1 rounds. -/
def ThRel (w : World) (yes : Bool) (e : Int) (v5 v10 : Value) (wr : World) : Prop :=
  Turn (fun _ => False) w wr ∧ ((v10 = .int .i64 0 ∧ v5 = .slice none 0 0) ∨ (v10 = .int .i64 1 ∧ ((yes = true ∧ wr.ownsRow w.heap.size 49 18 v5 1 (dn e)) ∨ (yes = false ∧ v5 = .slice none 0 0))))
set_option maxRecDepth 100000 in
set_option maxHeartbeats 2000000 in
theorem those_one (f : Nat) (yes : Bool) (e : Int) (ent : ∀ args w, (callFunc f args).run Tryz.prog w = .ok (.enter f args) w) (hf : ∀ w, Calls Tryz.prog f #[dnV e] w fun x w' => x = .returned (.bool yes) ∧ Turn (fun _ => False) w w') (w : World) {g : Nat} (hR : w.rangeAt g 0 (dn e)) :
    Calls Tryz.prog 21 #[.slice (some ⟨g, 0, none⟩) 1 1, .func (.func f) #[] #[]] w fun x w' => Turn (fun _ => False) w w' ∧ ∃ v, x = .returned v ∧ ((yes = true ∧ w'.ownsRow w.heap.size 49 18 v 1 (dn e)) ∨ (yes = false ∧ v = .slice none 0 0)) := by
  have HR := Lib.hid hR
  have HF := Lib.hid hf
  clear hR hf
  go_enter Tryz.func21, Tryz.ntmps21
  go_wp2_with fail
  go_loopw [5, 10] (fun v5 v10 wr => ThRel w yes e v5 v10 wr) (fun _ v10 _ => 2 - (intOf v10).toNat)
  case atStart => exact ⟨Turn.refl _ _, .inl ⟨rfl, rfl⟩⟩
  case round =>
    obtain ⟨T, ⟨rfl, rfl⟩ | ⟨rfl, hq⟩⟩ := hrel
    · have R0 := Lib.hid (range_turn HR.out T id)
      obtain ⟨W2, hW2, R2, T2, B2, TH⟩ := var_new wr e
      have HW := Lib.hid hW2
      have HT := Lib.hid TH
      have H2 := Lib.hid (And.intro R2 (And.intro T T2))
      have F2 := Lib.hid (HF.out W2)
      clear T hW2 R2 T2 B2 TH
      go_upto_region 5 with (first
        | ((with_reducible show wpList _ _ _ ({ dst := some 13, op := Op.load 49 _, type := _, pos := _, after := _, guard := _ } :: _) _ _); refine wpList_load_mid rfl 49 _ rfl g 0 rfl _ _ R0.out Tryz.underlying49 rfl size49 ?_)
        | ((with_reducible show wpList _ _ _ ({ dst := none, op := Op.store 49 _ _, type := _, pos := _, after := _, guard := _ } :: _) _ _); refine wpList_store_mid rfl 49 _ _ rfl wr.heap.size 0 (dn e).toArray rfl rfl HT.out size49 (dn_one e) ?_))
      rw [← (show W2 = (wr.alloc (.cells #[.int .i64 0, .int .i64 0, .int .i64 0, .int .i64 0, .int .i64 0, .int .i64 0, .int .i64 0, .int .i64 0, .int .i64 0, .int .i64 0, .int .i64 0, .int .i64 0, .string ⟨#[]⟩, .int .i64 0, .int .i64 0, .int .i64 0, .int .i64 0, .slice none 0 0] 49)).setCells wr.heap.size 0 (dn e).toArray.toList from HW.out)]
      go_wp2_with ((with_reducible show wpList _ _ _ ({ dst := some 15, op := Op.load 49 _, type := _, pos := _, after := _, guard := _ } :: _) _ _); refine wpList_load_mid rfl 49 _ rfl wr.heap.size 0 rfl _ _ H2.out.1 Tryz.underlying49 rfl size49 ?_)
      with_reducible refine F2.out.mono ?_
      rintro x w3 ⟨rfl, T3⟩
      have H3 := Lib.hid (And.intro (range_turn H2.out.1 T3 id) ((H2.out.2.1.trans H2.out.2.2).trans T3))
      clear T3
      cases yes with
      | false =>
        go_wp2_with fail
        exact ⟨⟨H3.out.2, .inr ⟨rfl, .inr ⟨rfl, rfl⟩⟩⟩, by simp [intOf]⟩
      | true =>
        obtain ⟨v', w4, hrun, ho, T4⟩ := dn_add w3 e
        have RUN := Lib.hid hrun
        have H4 := Lib.hid (And.intro (H3.out.2.trans T4) (own_weak ho H3.out.2.size))
        clear hrun ho T4
        have RUN2 := Lib.hid (show (Builtin.append_ #[71, 71] 71 #[.slice none 0 0, .slice (some ⟨w3.heap.size, 0, none⟩) 1 1]).run Tryz.prog (w3.alloc (.cells #[.int .i64 0, .int .i64 0, .int .i64 0, .int .i64 0, .int .i64 0, .int .i64 3, .int .i64 0, .int .i64 0, .int .i64 0, .int .i64 0, .int .i64 0, .int .i64 0, .string ⟨#[]⟩, .int .i64 0, .int .i64 0, .int .i64 e, .int .i64 0, .slice none 0 0] 49)) = .ok v' w4 from RUN.out)
        go_wp2_with (first
          | ((with_reducible show wpList _ _ _ ({ dst := some 18, op := Op.load 49 _, type := _, pos := _, after := _, guard := _ } :: _) _ _); refine wpList_load_mid rfl 49 _ rfl wr.heap.size 0 rfl _ _ H3.out.1 Tryz.underlying49 rfl size49 ?_; unfold dn)
          | (refine rl_append_run (by rfl) _ _ _ (by rfl) (by rfl) (by rfl) RUN2.out ?_))
        exact ⟨⟨H4.out.1, .inr ⟨rfl, .inl ⟨rfl, H4.out.2⟩⟩⟩, by simp [intOf]⟩
    · have FIN := Lib.hid (And.intro T hq)
      clear T hq
      go_wp2_with fail
      go_ret
      exact ⟨FIN.out.1, _, rfl, FIN.out.2⟩
set_option maxRecDepth 100000 in
theorem those_nil (f : Value) (w : World) : Calls Tryz.prog 21 #[.slice none 0 0, f] w fun x w' => x = .returned (.slice none 0 0) ∧ w' = w := by
  go_enter Tryz.func21, Tryz.ntmps21
  go_wp2_with fail
  go_rounds 1
  go_ret
  exact ⟨rfl, rfl⟩
end Go.Proofs.YtfahnmnglnddcaaGreatDoor
