/-
  The example of layer 12; what the blocks below are worth while epochs are worked on.
-/
import Derived.Test.YtibmimdlgbhdnaaSame
namespace Go.Proofs.Ytibmimdlgbhdnaa
open Go.ChangeShapes Go.WideShapes Go.ChangeAt Go.RowKit
set_option linter.unusedVariables false

/-- The epochs' two blocks, and all from base on. -/
def EpoS (x lb base k : Nat) : Prop := k = x ∨ k = lb ∨ base ≤ k

section
variable {w w' : World} {x lb n base : Nat} {now : Int} {P : Nat → Int} {V : Nat → Value} {Q : Nat → List (Int × Int × Int)}
theorem Epo.wide (h : Epo w x lb n base now P V Q) (t : Turn (EpoOwn x lb n V) w w') : Turn (EpoS x lb base) w w' :=
  t.more fun k _ hk => hk.elim .inl fun hk => .inr (hk.elim .inl fun ⟨a, ha, e⟩ => .inr (h.rowx ha e))
theorem Turn.drewd {S : Nat → Prop} (t : Turn S w w') : Turn S w w'.drew := t.drewN 1
theorem Turn.none {S : Nat → Prop} (t : Turn (fun _ => False) w w') : Turn S w w' := t.more fun _ _ e => e.elim
theorem Epo.rebase (h : Epo w x lb n base now P V Q) {b : Nat} (hb : base ≤ b) (hw : b ≤ w.heap.size) (hv : ∀ a, a < n → V a = .slice none 0 0 ∧ Q a = []) : Epo w x lb n b now P V Q :=
  ⟨h.ne, Nat.lt_of_lt_of_le h.bx hb, Nat.lt_of_lt_of_le h.bl hb, hw, h.c0, h.cp, h.cl, h.cv, h.fx, h.fl, fun a ha => by rw [(hv a ha).1, (hv a ha).2]; exact World.ownsRow_nil _ _ _ _, h.apart, h.n16, h.nn⟩
/-- What Ripe leaves, in short. -/
theorem Epo.ripe_post {a : Nat} {e : Ending} (h : Epo w x lb n base now P V Q) (hp : RipePost w x lb n base now P V Q a e w') :
    ∃ vl v', e = .returned vl ∧ w'.ownsRow w.heap.size 51 2 vl (told now (Q a)).length (cells2 (told now (Q a))) ∧ Epo w' x lb n base now P (upd V a v') (upd Q a (kept now (Q a))) ∧ Turn (EpoS x lb base) w w' := by
  unfold RipePost at hp
  obtain ⟨vl, v', he, ho, hE, hT⟩ := hp
  exact ⟨vl, v', he, ho, hE, h.wide hT⟩
theorem Epo.ripe_post2 {a s : Nat} {e : Ending} (h : Epo w x lb n base now P V Q) (hs : ∀ k, EpoOwn x lb n V k → k < s) (hp : RipePost w x lb n base now P V Q a e w') :
    ∃ vl v', e = .returned vl ∧ w'.ownsRow w.heap.size 51 2 vl (told now (Q a)).length (cells2 (told now (Q a))) ∧ Epo w' x lb n base now P (upd V a v') (upd Q a (kept now (Q a))) ∧ Turn (EpoS x lb base) w w' ∧ Turn (fun k => k < s) w w' := by
  unfold RipePost at hp
  obtain ⟨vl, v', he, ho, hE, hT⟩ := hp
  exact ⟨vl, v', he, ho, hE, h.wide hT, hT.more (fun k _ hk => hs k hk)⟩
end
theorem own_new (w : World) (a b : Int) : (w.alloc (.cells #[.int .i64 a, .int .i64 b] 51)).ownsRow w.heap.size 51 2 (.slice (some ⟨w.heap.size, 0, none⟩) 1 1) 1 (cells2 [(a, b)]) :=
  ⟨rfl, .inr ⟨w.heap.size, 1, #[.int .i64 a, .int .i64 b], rfl, Nat.le_refl _, by show (w.heap.push _)[w.heap.size]? = _; exact Array.getElem?_push_size, Nat.le_refl _, by decide, rfl, rfl⟩⟩

set_option maxRecDepth 100000 in
set_option maxHeartbeats 2000000 in
theorem epo_awake (w : World) : Calls Try.prog 29 #[] w fun e w' => e = .returned (.bool true) ∧ Below w.heap.size w w' := by
  have H0 := Lib.hid (epo_new 2 (by decide) (by decide) w)
  go_enter Try.func29, Try.ntmps29
  go_wp2_with fail
  refine H0.out.mono ?_
  rintro e w1 ⟨rfl, h1, b1, z1⟩
  have r0 : (w1.alloc (.cells #[.int .i64 3, .int .i64 0] 51)).cell? ⟨w1.heap.size, 0, none⟩ = some (.int .i64 3) := World.cell?_alloc_new w1 #[.int .i64 3, .int .i64 0] 51 0
  have r1 : (w1.alloc (.cells #[.int .i64 3, .int .i64 0] 51)).cell? ⟨w1.heap.size, 1, none⟩ = some (.int .i64 0) := World.cell?_alloc_new w1 #[.int .i64 3, .int .i64 0] 51 1
  have hz : (w1.alloc (.cells #[.int .i64 3, .int .i64 0] 51)).heap.size = w.heap.size + 3 := by simp [z1]
  have h1' := (h1.alloc (.cells #[.int .i64 3, .int .i64 0] 51)).rebase (b := w.heap.size + 3) (by omega) (by omega) (fun a ha => ⟨rfl, rfl⟩)
  have T1 : Turn (EpoS (w.heap.size + 1) w.heap.size (w.heap.size + 3)) (w1.alloc (.cells #[.int .i64 3, .int .i64 0] 51)) (w1.alloc (.cells #[.int .i64 3, .int .i64 0] 51)) := Turn.refl _ _
  have b1' : Below w.heap.size w (w1.alloc (.cells #[.int .i64 3, .int .i64 0] 51)) := b1.alloc (by omega) _
  have C1 := Lib.hid (h1'.pin_yes (a := 0) (by decide) rfl)
  have RC : Hid (∀ w', Turn (EpoS (w.heap.size + 1) w.heap.size (w.heap.size + 3)) (w1.alloc (.cells #[.int .i64 3, .int .i64 0] 51)) w' → w'.cell? ⟨w.heap.size + 2, 0, none⟩ = some (.int .i64 3) ∧ w'.cell? ⟨w.heap.size + 2, 1, none⟩ = some (.int .i64 0) ∧ Below w.heap.size w w') := Lib.hid (fun w' ht => by
    rw [z1] at r0 r1
    have hn : ¬ EpoS (w.heap.size + 1) w.heap.size (w.heap.size + 3) (w.heap.size + 2) := fun e => by unfold EpoS at e; omega
    exact ⟨ht.cell hn r0, ht.cell hn r1, b1'.trans (ht.below (fun k hk => ⟨by omega, fun e => by unfold EpoS at e; omega⟩))⟩)
  have E1 := Lib.hid h1'
  clear h1 b1 r0 r1 h1' b1' hz
  go_wp2_with fail

  clear z1
  generalize w1.alloc (.cells #[.int .i64 3, .int .i64 0] 51) = W1 at *
  refine C1.out.mono ?_
  rintro e w2 ⟨rfl, h2, t2⟩
  have T2 := Lib.hid (E1.out.wide t2)
  obtain ⟨c0, c1, _⟩ := RC.out _ T2.out
  have C2 := Lib.hid (h2.retire (a := 1) (by decide) 3 0 (by decide))
  have E2 := Lib.hid h2
  clear h2 t2 C1 E1 T1
  go_wp2_with fail
  refine C2.out.mono ?_
  rintro e w3 ⟨rfl, v3, h3, t3⟩
  have T3 := Lib.hid (T2.out.trans (E2.out.wide t3))
  clear c0 c1
  have C3 := Lib.hid (h3.advance_yes (by decide) (by decide) (fun j hj => by have : j = 0 ∨ j = 1 := (by omega); rcases this with rfl | rfl <;> simp [upd]))
  have E3 := Lib.hid h3
  clear h3 t3 C2 E2 T2
  go_wp2_with fail
  refine C3.out.mono ?_
  rintro e w4 ⟨rfl, h4, t4⟩
  have T4 := Lib.hid (T3.out.trans (E3.out.wide t4))
  have C4 := Lib.hid (h4.advance_no 0 (by decide) (by simp [upd]) (by simp [upd]))
  have E4 := Lib.hid h4
  clear h4 t4 C3 E3 T3
  go_wp2_with fail
  refine C4.out.mono ?_
  rintro e w5 ⟨rfl, rfl⟩
  have C5 := Lib.hid (E4.out.ripe (a := 1) (by decide) (by decide))
  go_wp2_with fail
  refine C5.out.mono ?_
  rintro e w5 hP
  obtain ⟨vl, v5, rfl, ho, h5, t5⟩ := E4.out.ripe_post hP
  have T5 := Lib.hid (T4.out.trans t5)
  have ho : w5.ownsRow w4.heap.size 51 2 vl 0 [] := ho
  obtain ⟨ad, cap, rfl, _⟩ := own_slice ho
  have C6 := Lib.hid (h5.unpin_yes (a := 0) (by decide) (by simp [upd]))
  have E5 := Lib.hid h5
  clear h5 t5 C4 C5 E4 T4 hP ho
  go_wp2_with fail
  refine C6.out.mono ?_
  rintro e w6 ⟨rfl, h6, t6⟩
  have T6 := Lib.hid (T5.out.trans (E5.out.wide t6))
  have C7 := Lib.hid (h6.advance_yes (by decide) (by decide) (fun j hj => by have : j = 0 ∨ j = 1 := (by omega); rcases this with rfl | rfl <;> simp [upd]))
  have E6 := Lib.hid h6
  clear h6 t6 C6 E5 T5
  go_wp2_with fail
  refine C7.out.mono ?_
  rintro e w7 ⟨rfl, h7, t7⟩
  have T7 := Lib.hid (T6.out.trans (E6.out.wide t7))
  have T7' := Lib.hid T7.out
  have RA : Hid (∀ (W : World), Turn (fun _ => False) w7 W → Calls Try.prog 40 #[.pointer (some ⟨w.heap.size + 1, 0, none⟩), .int .i64 1] W fun e w8 => ∃ vl v', e = .returned vl ∧ w8.ownsRow W.heap.size 51 2 vl 1 (cells2 [(3, 0)]) ∧ Turn (EpoS (w.heap.size + 1) w.heap.size (w.heap.size + 3)) W w8 ∧ Turn (fun k => k < w7.heap.size) W w8) := Lib.hid (fun W ht => ((h7.keep ht (fun _ _ _ => id)).ripe (a := 1) (by decide) (by decide)).mono (fun e w8 hp => by
    obtain ⟨vl, v', he, ho, _, hT, hU⟩ := (h7.keep ht (fun _ _ _ => id)).ripe_post2 (a := 1) (e := e) (w' := w8) (s := w7.heap.size) (fun k hk => by
      have hx := h7.bx
      have hl := h7.bl
      have hb := h7.bw
      rcases hk with rfl | rfl | ⟨a, ha, e⟩
      · omega
      · omega
      · exact ((h7.rows a ha).lt k e).2) hp
    exact ⟨vl, v', he, ho, hT, hU⟩))
  have FIN := Lib.hid (fun W (ht : Turn (EpoS (w.heap.size + 1) w.heap.size (w.heap.size + 3)) w7 W) => (RC.out W (T7'.out.trans ht)).2.2)
  obtain ⟨c0, c1, _⟩ := RC.out _ T7.out
  clear h7 t7 C7 E6 T6 T7
  go_wp2_with fail
  refine wp_region_held_drew (S := (fun w' => w'.cell? ⟨w.heap.size + 2, 0, none⟩ = some (.int .i64 3) ∧ w'.cell? ⟨w.heap.size + 2, 1, none⟩ = some (.int .i64 0))) (by kernel_rfl) ?hs0 (fun hS0 => ?_)
  case hs0 => ((try dsimp only); first | (go_keep; done) | (refine ⟨?_, ?_⟩ <;> (go_keep; done)) | exact ⟨past s0, past s1⟩)
  refine wpAnyH_take (i := 0) (oi := { dst := some 32, op := Op.move (Operand.tmp 1), type := 42, pos := "law.go:18", after := #[], guard := none }) (v := ?_) rfl (by kernel_rfl) (by kernel_rfl) (by kernel_rfl) (fun _ _ _ h => h) (Or.inl ⟨by rfl, ?hy1⟩) hS0 ?_
  case hy1 => (intro w hSw; (try dsimp only at hSw); go_simp; try with_reducible rfl)
  try simp only [Act.put, List.setIfInBounds_toArray, List.set_cons_zero, List.set_cons_succ]
  refine wpAnyH_take (i := 2) (oi := { dst := some 34, op := Op.load 51 (Operand.tmp 2), type := 51, pos := "law.go:18", after := #[], guard := none }) (v := ?_) rfl (by kernel_rfl) (by kernel_rfl) (by kernel_rfl) (fun _ _ _ h => h) (Or.inl ⟨by rfl, ?hy2⟩) hS0 ?_
  case hy2 => (intro w hSw; (try dsimp only at hSw); go_simp; try with_reducible rfl)
  try simp only [Act.put, List.setIfInBounds_toArray, List.set_cons_zero, List.set_cons_succ]
  refine wpAnyH_ready (rs := [1, 3]) (by kernel_rfl) (by simp) ?_
  refine AllReadyH.cons (o := { dst := some 33, op := Op.call { callee := Callee.value (Operand.func 40), args := #[Operand.tmp 32, Operand.const (Value.int IntKind.i64 1)], argTypes := #[42, 3] }, type := 53, pos := "law.go:18", after := #[{ on := 0, ground := Ground.data }], guard := none }) rfl (fun K hK => ?_) ?_
  · go_simp; with_reducible refine (RA.out _ ((Turn.refl _ w7).drewd)).mono ?_; rintro e w8 ⟨vl, v8, rfl, ho, hT, hU⟩; have hTT := ((Turn.refl _ w7).drewd).trans hT; obtain ⟨s0, s1, _⟩ := RC.out _ (T7'.out.trans hTT); have ho : w8.ownsRow _ 51 2 vl 1 (cells2 [(3, 0)]) := ho; obtain ⟨ad, cap, rfl, _⟩ := own_slice ho; go_simp
    refine hK.out _ _ ?hs3 (fun hS3 => ?_)
    case hs3 => ((try dsimp only); first | (go_keep; done) | (refine ⟨?_, ?_⟩ <;> (go_keep; done)) | exact ⟨past s0, past s1⟩)
    clear hK K hS0
    refine wpAnyH_ready (rs := [3]) (by kernel_rfl) (by simp) ?_
    refine AllReadyH.cons (o := { dst := some 35, op := Op.buildSlice 53 1 #[(0, Operand.tmp 34)], type := 53, pos := "law.go:18", after := #[{ on := 2, ground := Ground.data }], guard := none }) rfl (fun K hK => ?_) ?_
    · go_simp
      refine hK.out _ _ ?hs4 (fun hS4 => ?_)
      case hs4 => ((try dsimp only); first | (go_keep; done) | (refine ⟨?_, ?_⟩ <;> (go_keep; done)) | exact ⟨past s0, past s1⟩)
      clear hK K hS3
      refine wpAnyH_ready (rs := [4]) (by kernel_rfl) (by simp) ?_
      refine AllReadyH.cons (o := { dst := some 36, op := Op.call { callee := Callee.value (Operand.func 39), args := #[Operand.tmp 33, Operand.tmp 35], argTypes := #[53, 53] }, type := 4, pos := "law.go:18", after := #[{ on := 1, ground := Ground.data }, { on := 3, ground := Ground.data }, { on := 1, ground := Ground.chain }], guard := none }) rfl (fun K hK => ?_) ?_
      · go_simp; with_reducible refine (same_any (l := [(3, 0)]) (m := [(3, 0)]) (N := 1) (World.ownsRow.alloc ho _) (own_new w8 3 0) rfl rfl (by decide)).mono ?_; rintro e w9 ⟨rfl, hT2⟩; have hT3 := (hTT.alloc (.cells #[.int .i64 3, .int .i64 0] 51)).trans hT2.none; obtain ⟨s2, s3, _⟩ := RC.out _ (T7'.out.trans hT3); go_simp
        refine hK.out _ _ ?hs5 (fun hS5 => ?_)
        case hs5 => ((try dsimp only); first | (go_keep; done) | (refine ⟨?_, ?_⟩ <;> (go_keep; done)) | exact ⟨past s0, past s1⟩)
        clear hK K hS4
        refine wpAnyH_ready (rs := [5]) (by kernel_rfl) (by simp) ?_
        refine AllReadyH.cons (o := { dst := some 7, op := Op.assign (Operand.tmp 36), type := 4, pos := "law.go:18", after := #[{ on := 4, ground := Ground.data }, { on := 4, ground := Ground.chain }, { on := 0, ground := Ground.phase }, { on := 1, ground := Ground.phase }, { on := 2, ground := Ground.phase }, { on := 3, ground := Ground.phase }, { on := 4, ground := Ground.phase }], guard := none }) rfl (fun K hK => ?_) ?_
        · go_simp
          refine hK.out _ _ ?hs6 (fun hS6 => ?_)
          case hs6 => ((try dsimp only); first | (go_keep; done) | (refine ⟨?_, ?_⟩ <;> (go_keep; done)) | exact ⟨past s0, past s1⟩)
          clear hK K hS5
          refine wpAnyH_done (by kernel_rfl) ?_ _
          go_wp2
          go_ret
          exact ⟨rfl, FIN.out _ hT3⟩
        exact AllReadyH.nil
      exact AllReadyH.nil
    exact AllReadyH.nil
  refine AllReadyH.cons (o := { dst := some 35, op := Op.buildSlice 53 1 #[(0, Operand.tmp 34)], type := 53, pos := "law.go:18", after := #[{ on := 2, ground := Ground.data }], guard := none }) rfl (fun K hK => ?_) ?_
  · go_simp
    refine hK.out _ _ ?hs7 (fun hS7 => ?_)
    case hs7 => ((try dsimp only); first | (go_keep; done) | (refine ⟨?_, ?_⟩ <;> (go_keep; done)) | exact ⟨past s0, past s1⟩)
    clear hK K hS0
    refine wpAnyH_ready (rs := [1]) (by kernel_rfl) (by simp) ?_
    refine AllReadyH.cons (o := { dst := some 33, op := Op.call { callee := Callee.value (Operand.func 40), args := #[Operand.tmp 32, Operand.const (Value.int IntKind.i64 1)], argTypes := #[42, 3] }, type := 53, pos := "law.go:18", after := #[{ on := 0, ground := Ground.data }], guard := none }) rfl (fun K hK => ?_) ?_
    · go_simp; with_reducible refine (RA.out _ (((Turn.refl _ w7).alloc (.cells #[.int .i64 3, .int .i64 0] 51)).drewd)).mono ?_; rintro e w8 ⟨vl, v8, rfl, ho, hT, hU⟩; have hTT := (((Turn.refl _ w7).alloc (.cells #[.int .i64 3, .int .i64 0] 51)).drewd).trans hT; obtain ⟨s0, s1, _⟩ := RC.out _ (T7'.out.trans hTT); have ho : w8.ownsRow _ 51 2 vl 1 (cells2 [(3, 0)]) := ho; obtain ⟨ad, cap, rfl, _⟩ := own_slice ho; have hn := own_turn (own_keep (w' := (w7.alloc (.cells #[.int .i64 3, .int .i64 0] 51)).drew) (own_new w7 3 0) (fun _ _ => rfl)) hU (fun k hk => by have : w7.heap.size = k := (by simpa [Value.ownBlock] using hk); omega); go_simp
      refine hK.out _ _ ?hs8 (fun hS8 => ?_)
      case hs8 => ((try dsimp only); first | (go_keep; done) | (refine ⟨?_, ?_⟩ <;> (go_keep; done)) | exact ⟨past s0, past s1⟩)
      clear hK K hS7
      refine wpAnyH_ready (rs := [4]) (by kernel_rfl) (by simp) ?_
      refine AllReadyH.cons (o := { dst := some 36, op := Op.call { callee := Callee.value (Operand.func 39), args := #[Operand.tmp 33, Operand.tmp 35], argTypes := #[53, 53] }, type := 4, pos := "law.go:18", after := #[{ on := 1, ground := Ground.data }, { on := 3, ground := Ground.data }, { on := 1, ground := Ground.chain }], guard := none }) rfl (fun K hK => ?_) ?_
      · go_simp; with_reducible refine (same_any (l := [(3, 0)]) (m := [(3, 0)]) (N := 1) ho hn rfl rfl (by decide)).mono ?_; rintro e w9 ⟨rfl, hT2⟩; have hT3 := hTT.trans hT2.none; obtain ⟨s2, s3, _⟩ := RC.out _ (T7'.out.trans hT3); go_simp
        refine hK.out _ _ ?hs9 (fun hS9 => ?_)
        case hs9 => ((try dsimp only); first | (go_keep; done) | (refine ⟨?_, ?_⟩ <;> (go_keep; done)) | exact ⟨past s0, past s1⟩)
        clear hK K hS8
        refine wpAnyH_ready (rs := [5]) (by kernel_rfl) (by simp) ?_
        refine AllReadyH.cons (o := { dst := some 7, op := Op.assign (Operand.tmp 36), type := 4, pos := "law.go:18", after := #[{ on := 4, ground := Ground.data }, { on := 4, ground := Ground.chain }, { on := 0, ground := Ground.phase }, { on := 1, ground := Ground.phase }, { on := 2, ground := Ground.phase }, { on := 3, ground := Ground.phase }, { on := 4, ground := Ground.phase }], guard := none }) rfl (fun K hK => ?_) ?_
        · go_simp
          refine hK.out _ _ ?hs10 (fun hS10 => ?_)
          case hs10 => ((try dsimp only); first | (go_keep; done) | (refine ⟨?_, ?_⟩ <;> (go_keep; done)) | exact ⟨past s0, past s1⟩)
          clear hK K hS9
          refine wpAnyH_done (by kernel_rfl) ?_ _
          go_wp2
          go_ret
          exact ⟨rfl, FIN.out _ hT3⟩
        exact AllReadyH.nil
      exact AllReadyH.nil
    exact AllReadyH.nil
  exact AllReadyH.nil
end Go.Proofs.Ytibmimdlgbhdnaa
