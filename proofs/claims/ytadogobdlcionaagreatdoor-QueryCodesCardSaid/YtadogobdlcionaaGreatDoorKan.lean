/-
  Two things with a sign between.
-/
import Derived.Test.YtadogobdlcionaaGreatDoorKam
set_option linter.unusedSimpArgs false
namespace Go.Proofs.YtadogobdlcionaaGreatDoor
open Go.ChangeShapes Go.WideShapes Go.ChangeAt Go.RowKit Go.Shelf
set_option linter.unusedVariables false
abbrev blank : ByteArray := ⟨#[32]⟩
/-- Two things with a sign between: the texts, and how closely they hold. o: the sign's number less 1. -/
def holdT (o : Nat) : Int := if 2 ≤ o then 1 else 0
def bothT (o : Nat) (l r : List ByteArray × Int) : List ByteArray × Int := ((leastT l (holdT o)).1 ++ [blank ++ reckonsT.getD o ⟨#[]⟩ ++ blank] ++ (leastT r (holdT o + 1)).1, holdT o)
/-- The boxes of two parts, of a sign, and of the result. -/
def Box4 (W : World) (N M : Nat) (a b : Addr) (h : Int) (a2 b2 : Addr) (h2 : Int) (a3 b3 : Addr) : Prop :=
  ((W.cell? ⟨N, 0, none⟩ = some (.pointer (some a)) ∧ W.cell? ⟨N, 1, none⟩ = some (.pointer (some b)) ∧ W.cell? ⟨N, 2, none⟩ = some (.int .i64 h)) ∧
   (W.cell? ⟨N + 1, 0, none⟩ = some (.pointer (some a2)) ∧ W.cell? ⟨N + 1, 1, none⟩ = some (.pointer (some b2)) ∧ W.cell? ⟨N + 1, 2, none⟩ = some (.int .i64 h2)) ∧
   (W.cell? ⟨M, 0, none⟩ = some (.pointer (some a3)) ∧ W.cell? ⟨M, 1, none⟩ = some (.pointer (some b3)) ∧ W.cell? ⟨M, 2, none⟩ = some (.int .i64 2))) ∧ W.rangeAt (N + 2) 0 zpt ∧ Blk W (N + 2) 129
theorem Box4.turnS {W W' : World} {S : Nat → Prop} {N M : Nat} {a b : Addr} {h : Int} {a2 b2 : Addr} {h2 : Int} {a3 b3 : Addr} (s : Box4 W N M a b h a2 b2 h2 a3 b3) (T : Turn S W W') (hs : ∀ k, S k → k ≠ N ∧ k ≠ N + 1 ∧ k ≠ N + 2 ∧ k ≠ M) : Box4 W' N M a b h a2 b2 h2 a3 b3 :=
  have n0 : ¬ S N := fun q => (hs N q).1 rfl
  have n1 : ¬ S (N + 1) := fun q => (hs (N + 1) q).2.1 rfl
  have n2 : ¬ S (N + 2) := fun q => (hs (N + 2) q).2.2.1 rfl
  have n3 : ¬ S M := fun q => (hs M q).2.2.2 rfl
  ⟨⟨⟨T.cell n0 s.1.1.1, T.cell n0 s.1.1.2.1, T.cell n0 s.1.1.2.2⟩, ⟨T.cell n1 s.1.2.1.1, T.cell n1 s.1.2.1.2.1, T.cell n1 s.1.2.1.2.2⟩, ⟨T.cell n3 s.1.2.2.1, T.cell n3 s.1.2.2.2.1, T.cell n3 s.1.2.2.2.2⟩⟩, range_turn s.2.1 T n2, s.2.2.turn T n2⟩
set_option maxRecDepth 100000 in
set_option maxHeartbeats 4000000 in
theorem both_two (w : World) {P PR0 : Pcs} {h h2 : Int} {v v2 : Value} (hp : PartAt w P h v) (hp2 : PartAt w PR0 h2 v2) (hn : (blP (P ++ PR0)).Nodup) (o : Nat) (ho : o < 5) :
    Calls Tryz.prog 73 #[.int .i64 ((o : Int) + 1), v, v2] w fun y w' => ∃ v', y = .returned v' ∧ Made w w' (blP (P ++ PR0)) (bothT o (txP P, h) (txP PR0, h2)).1 (bothT o (txP P, h) (txP PR0, h2)).2 v' := by
  have HP1 := hp
  have HP2 := hp2
  obtain ⟨Q, x, a, e, rfl, c, n⟩ := hp
  obtain ⟨Q2, x2, a2, e2, rfl, c2, n2⟩ := hp2
  obtain ⟨W, hW⟩ : ∃ W, W = ((w.alloc (.cells #[.pointer (some a), .pointer (some ⟨x.1, 0, none⟩), .int .i64 h] 129)).alloc (.cells #[.pointer (some a2), .pointer (some ⟨x2.1, 0, none⟩), .int .i64 h2] 129)).alloc (.cells #[.pointer none, .pointer none, .int .i64 0] 129) := ⟨_, rfl⟩
  have T0 : Turn (fun _ => False) w W := by rw [hW]; exact (((Turn.refl _ _).alloc _).alloc _).alloc _
  have U1 : Turn (fun _ => False) (w.alloc (.cells #[.pointer (some a), .pointer (some ⟨x.1, 0, none⟩), .int .i64 h] 129)) W := by rw [hW]; exact ((Turn.refl _ _).alloc _).alloc _
  have U2 : Turn (fun _ => False) ((w.alloc (.cells #[.pointer (some a), .pointer (some ⟨x.1, 0, none⟩), .int .i64 h] 129)).alloc (.cells #[.pointer (some a2), .pointer (some ⟨x2.1, 0, none⟩), .int .i64 h2] 129)) W := by rw [hW]; exact (Turn.refl _ _).alloc _
  have R1 : W.rangeAt w.heap.size 0 (ptL (some a) (some ⟨x.1, 0, none⟩) h) := range_turn (range_new w (ptL (some a) (some ⟨x.1, 0, none⟩) h) 129) U1 id
  have R2 : W.rangeAt (w.heap.size + 1) 0 (ptL (some a2) (some ⟨x2.1, 0, none⟩) h2) := by
    have := range_turn (range_new (w.alloc (.cells #[.pointer (some a), .pointer (some ⟨x.1, 0, none⟩), .int .i64 h] 129)) (ptL (some a2) (some ⟨x2.1, 0, none⟩) h2) 129) U2 id
    rw [World.size_alloc] at this; exact this
  have R3 : W.rangeAt (w.heap.size + 2) 0 zpt := by
    have := range_new ((w.alloc (.cells #[.pointer (some a), .pointer (some ⟨x.1, 0, none⟩), .int .i64 h] 129)).alloc (.cells #[.pointer (some a2), .pointer (some ⟨x2.1, 0, none⟩), .int .i64 h2] 129)) zpt 129
    rw [World.size_alloc, World.size_alloc] at this; rw [hW]; exact this
  have B3 : Blk W (w.heap.size + 2) 129 := by
    have := Blk.new ((w.alloc (.cells #[.pointer (some a), .pointer (some ⟨x.1, 0, none⟩), .int .i64 h] 129)).alloc (.cells #[.pointer (some a2), .pointer (some ⟨x2.1, 0, none⟩), .int .i64 h2] 129)) zpt 129
    rw [World.size_alloc, World.size_alloc] at this; rw [hW]; exact this
  have LT : ∀ c ∈ blP (P ++ PR0), c < w.heap.size := fun c hc => by
    rw [blP_append, List.mem_append] at hc
    exact hc.elim (fun q => (HP1.blk c q).lt) (fun q => (HP2.blk c q).lt)
  obtain ⟨sg, hsg⟩ : ∃ t, reckonsT[o]? = some t := ⟨_, List.getElem?_eq_getElem (by show o < 5; exact ho)⟩
  have hs1 : sg.size = 1 := by
    have : o = 0 ∨ o = 1 ∨ o = 2 ∨ o = 3 ∨ o = 4 := by omega
    rcases this with rfl | rfl | rfl | rfl | rfl <;> (injection hsg with hsg; subst hsg; rfl)
  have hs2 : (blank ++ sg).size = 2 := by rw [ByteArray.size_append, hs1]; rfl
  have hs3 : ((⟨#[32]⟩ : ByteArray) ++ sg).size = 2 := hs2
  have HW := Lib.hid hW
  have HH := Lib.hid (And.intro HP1 (And.intro HP2 (And.intro T0 (And.intro R1 (And.intro R2 (And.intro R3 (And.intro B3 (And.intro LT hn))))))))
  have HE := Lib.hid (And.intro e e2)
  have HO := Lib.hid (And.intro ho hsg)
  have hw1 : wrap64 ((o : Int) + 1) = (o : Int) + 1 := by unfold wrap64; omega
  have hw2 : wrap64 ((o : Int) + 1 - 1) = (o : Int) := by unfold wrap64; omega
  clear hW T0 U1 U2 R1 R2 R3 B3 LT HP1 HP2 c n c2 n2 hn hsg
  by_cases hk : 2 ≤ o
  · have u1 : decide ((o : Int) + 1 ≥ 3) = true := decide_eq_true (by omega)
    have u2 : decide (3 ≤ (o : Int) + 1) = true := decide_eq_true (by omega)
    have HK := Lib.hid hk
    clear hk ho e e2
    go_enter Tryz.func73, Tryz.ntmps73
    have PK := Lib.hid (fun W => reckons_is W)
    go_upto_region 4 with fail
    rw [← HW.out]
    clear HW
    go_wp2_with fail
    with_reducible refine (PK.out W).mono ?_
    rintro y W1 ⟨g, cap, rfl, R4, T4⟩
    rw [show reckonsT.length = 5 from rfl]
    have hcell : W1.cell? ⟨g, o, none⟩ = some (.string sg) := by
      have := R4 o (.string sg) (by rw [List.getElem?_map, HO.out.2]; rfl)
      rw [Nat.zero_add] at this
      exact this
    have G1 := Lib.hid T4
    clear R4 T4
    have o0 : (0 : Int) ≤ (o : Int) := Int.natCast_nonneg o
    have o1 : (o : Int) < 5 := by have := HO.out.1; omega
    have HS := Lib.hid (fun W (t : ByteArray) => single_is W t)
    go_wp2_with fail
    with_reducible refine (HS.out _ _).mono ?_
    rintro y W2 ⟨vs, rfl, MS⟩
    obtain ⟨PZ, tz, qz, bz, Tz⟩ := MS
    obtain ⟨Qs, xs, ag, es, rfl, cs, ns⟩ := id qz
    obtain ⟨W3, hW3⟩ : ∃ X, X = W2.alloc (.cells #[.pointer (some ag), .pointer (some ⟨xs.1, 0, none⟩), .int .i64 2] 129) := ⟨_, rfl⟩
    have Tz : Turn (fun _ => False) W1 W2 := Tz.more (fun _ _ q => by cases q)
    have T3 : Turn (fun _ => False) W2 W3 := by rw [hW3]; exact (Turn.refl _ _).alloc _
    have TD : Turn (fun _ => False) W3 W3.drew := (Turn.refl _ _).drewN 1
    have R5 : W3.rangeAt W2.heap.size 0 (ptL (some ag) (some ⟨xs.1, 0, none⟩) 2) := by rw [hW3]; exact range_new W2 (ptL (some ag) (some ⟨xs.1, 0, none⟩) 2) 129
    have hz3 : W3.heap.size = W2.heap.size + 1 := by rw [hW3]; simp
    have TA : Turn (fun _ => False) W W2 := G1.out.trans Tz
    have TB : Turn (fun _ => False) W W3.drew := (TA.trans T3).trans TD
    have hz : w.heap.size + 3 ≤ W.heap.size := HH.out.2.2.2.2.2.2.1.lt
    have hz1 := G1.out.size
    have hz2 := Tz.size
    have PD := (HH.out.1.turn HH.out.2.2.1 (fun _ _ => id)).turn TB (fun _ _ => id)
    have PR := (HH.out.2.1.turn HH.out.2.2.1 (fun _ _ => id)).turn TB (fun _ _ => id)
    have PS := (qz.turn T3 (fun _ _ => id)).turn TD (fun _ _ => id)
    have R1 := range_turn HH.out.2.2.2.1 TB id
    have R2 := range_turn HH.out.2.2.2.2.1 TB id
    have S3 : Box4 W3.drew w.heap.size W2.heap.size a ⟨x.1, 0, none⟩ h a2 ⟨x2.1, 0, none⟩ h2 ag ⟨xs.1, 0, none⟩ := ⟨⟨⟨R1 0 _ rfl, R1 1 _ rfl, R1 2 _ rfl⟩, ⟨R2 0 _ rfl, R2 1 _ rfl, R2 2 _ rfl⟩, ⟨R5 0 _ rfl, R5 1 _ rfl, R5 2 _ rfl⟩⟩, range_turn HH.out.2.2.2.2.2.1 TB id, HH.out.2.2.2.2.2.2.1.turn TB id⟩
    have sD := S3.1
    have A0 : Turn (fun k => k ∈ blP (P ++ PR0)) w W3.drew := (HH.out.2.2.1.trans TB).more (fun _ _ f => f.elim)
    have LT := HH.out.2.2.2.2.2.2.2.1
    have hn := HH.out.2.2.2.2.2.2.2.2
    rw [blP_append, List.nodup_append] at hn
    have OL : ∀ k, k ∈ blP P → k ∈ blP (P ++ PR0) := fun k hk => by rw [blP_append, List.mem_append]; exact .inl hk
    have OR : ∀ k, k ∈ blP PR0 → k ∈ blP (P ++ PR0) := fun k hk => by rw [blP_append, List.mem_append]; exact .inr hk
    have ZL : ∀ k, k ∈ blP PZ → W.heap.size ≤ k ∧ k < W2.heap.size := fun k hk => by
      have h1 := (bz k hk).resolve_left (by simp)
      have h2 := (qz.blk k hk).lt
      omega
    have LP : ∀ k, k ∈ blP P → k < w.heap.size := fun k hk => LT k (OL k hk)
    have LR : ∀ k, k ∈ blP PR0 → k < w.heap.size := fun k hk => LT k (OR k hk)
    have BL : ∀ k, (k ∈ blP P → k ≠ w.heap.size ∧ k ≠ w.heap.size + 1 ∧ k ≠ w.heap.size + 2 ∧ k ≠ W2.heap.size) ∧ (k ∈ blP PR0 → k ≠ w.heap.size ∧ k ≠ w.heap.size + 1 ∧ k ≠ w.heap.size + 2 ∧ k ≠ W2.heap.size) := fun k => ⟨fun hk => by have := LP k hk; omega, fun hk => by have := LR k hk; omega⟩
    have BL2 : ∀ k, (k ∈ blP P ∨ k ∈ blP PZ ∨ W3.heap.size ≤ k) → k ≠ w.heap.size ∧ k ≠ w.heap.size + 1 ∧ k ≠ w.heap.size + 2 ∧ k ≠ W2.heap.size := fun k hk => by
      rcases hk with hk | hk | hk
      · exact (BL k).1 hk
      · have := ZL k hk; omega
      · omega
    have BL3 : ∀ k, (k ∈ blP P ∨ k ∈ blP PZ ∨ W3.heap.size ≤ k ∨ k ∈ blP PR0) → k ≠ w.heap.size ∧ k ≠ w.heap.size + 1 ∧ k ≠ w.heap.size + 2 ∧ k ≠ W2.heap.size := fun k hk => by
      rcases hk with hk | hk | hk | hk
      · exact (BL k).1 hk
      · have := ZL k hk; omega
      · omega
      · exact (BL k).2 hk
    have BL4 : ∀ k, (k ∈ blP P ∨ k ∈ blP PZ ∨ W3.heap.size ≤ k ∨ k ∈ blP PR0) → k ∈ blP (P ++ PR0) ∨ w.heap.size ≤ k := fun k hk => by
      rcases hk with hk | hk | hk | hk
      · exact .inl (OL k hk)
      · have := ZL k hk; exact .inr (by omega)
      · exact .inr (by omega)
      · exact .inl (OR k hk)
    have OL2 : ∀ k, k < w.heap.size → (k ∈ blP P ∨ k ∈ blP PZ ∨ W3.heap.size ≤ k) → k ∈ blP (P ++ PR0) := fun k h1 hk => (BL4 k (by rcases hk with q | q | q; exact .inl q; exact .inr (.inl q); exact .inr (.inr (.inl q)))).resolve_right (by omega)
    have OL3 : ∀ k, k < w.heap.size → (k ∈ blP P ∨ k ∈ blP PZ ∨ W3.heap.size ≤ k ∨ k ∈ blP PR0) → k ∈ blP (P ++ PR0) := fun k h1 hk => (BL4 k hk).resolve_right (by omega)
    have DS : ∀ k, k ∈ blP PZ → (k ∈ blP P ∨ k ∈ blP PR0) → False := fun k hk q => by
      have := ZL k hk
      rcases q with q | q
      · have := LP k q; omega
      · have := LR k q; omega
    have DR : ∀ k, k ∈ blP PR0 → k ∈ blP P → False := fun k h1 h2 => hn.2.2 k h2 k h1 rfl
    have DR2 : ∀ k, k ∈ blP PR0 → (k ∈ blP P ∨ k ∈ blP PZ ∨ W3.heap.size ≤ k) → False := fun k h1 hk => by
      have := LR k h1
      rcases hk with hk | hk | hk
      · exact DR k h1 hk
      · have := ZL k hk; omega
      · omega
    have BL4B : ∀ k, (k ∈ blP P ∨ k ∈ blP PZ ∨ W3.heap.size ≤ k ∨ k ∈ blP PR0) → k ∈ blP (P ++ PR0) ∨ w.heap.size + 3 ≤ k := fun k hk => by
      rcases hk with hk | hk | hk | hk
      · exact .inl (OL k hk)
      · have := ZL k hk; exact .inr (by omega)
      · exact .inr (by omega)
      · exact .inl (OR k hk)
    have HW3 := Lib.hid hW3
    have HTZ := Lib.hid tz
    clear hW3 T3 TD R5 TA TB R1 R2 hn hcell es cs ns o0 o1
    go_upto_region 5 with fail
    rw [← HW3.out]
    clear HW3
    refine lany_start 12 (fun zb w' => zb = false → (fun w' => (w'.cell? ⟨w.heap.size, 0, none⟩ = some (.pointer (some a)) ∧ w'.cell? ⟨w.heap.size, 1, none⟩ = some (.pointer (some ⟨x.1, 0, none⟩)) ∧ w'.cell? ⟨w.heap.size, 2, none⟩ = some (.int .i64 h)) ∧ (w'.cell? ⟨w.heap.size + 1, 0, none⟩ = some (.pointer (some a2)) ∧ w'.cell? ⟨w.heap.size + 1, 1, none⟩ = some (.pointer (some ⟨x2.1, 0, none⟩)) ∧ w'.cell? ⟨w.heap.size + 1, 2, none⟩ = some (.int .i64 h2)) ∧ (w'.cell? ⟨W2.heap.size, 0, none⟩ = some (.pointer (some ag)) ∧ w'.cell? ⟨W2.heap.size, 1, none⟩ = some (.pointer (some ⟨xs.1, 0, none⟩)) ∧ w'.cell? ⟨W2.heap.size, 2, none⟩ = some (.int .i64 2))) w') (by kernel_rfl) ?hs0 (fun hS0 => ?_)
    case hs0 => exact fun _ => sD
    refine LAny.take (i := 0) (oi := { dst := some 19, op := Op.load 129 (Operand.tmp 4), type := 129, pos := "print.go:148", after := #[], guard := none }) (v := ?_) rfl (by kernel_rfl) (by kernel_rfl) (by kernel_rfl) (by kernel_rfl) (fun _ _ _ h => h) (Or.inl ⟨by rfl, ?hy1⟩) hS0 ?_
    case hy1 => (intro w hSw; have hSw := hSw rfl; (try dsimp only at hSw); go_simp; try with_reducible rfl)
    try simp only [Act.put, List.setIfInBounds_toArray, List.set_cons_zero, List.set_cons_succ]
    refine LAny.take (i := 1) (oi := { dst := some 20, op := Op.move (Operand.tmp 7), type := 3, pos := "print.go:148", after := #[], guard := none }) (v := ?_) rfl (by kernel_rfl) (by kernel_rfl) (by kernel_rfl) (by kernel_rfl) (fun _ _ _ h => h) (Or.inl ⟨by rfl, ?hy2⟩) hS0 ?_
    case hy2 => (intro w hSw; have hSw := hSw rfl; (try dsimp only at hSw); go_simp; try with_reducible rfl)
    try simp only [Act.put, List.setIfInBounds_toArray, List.set_cons_zero, List.set_cons_succ]
    refine LAny.take (i := 3) (oi := { dst := some 22, op := Op.load 129 (Operand.tmp 8), type := 129, pos := "print.go:148", after := #[], guard := none }) (v := ?_) rfl (by kernel_rfl) (by kernel_rfl) (by kernel_rfl) (by kernel_rfl) (fun _ _ _ h => h) (Or.inl ⟨by rfl, ?hy3⟩) hS0 ?_
    case hy3 => (intro w hSw; have hSw := hSw rfl; (try dsimp only at hSw); go_simp; try with_reducible rfl)
    try simp only [Act.put, List.setIfInBounds_toArray, List.set_cons_zero, List.set_cons_succ]
    refine LAny.take (i := 4) (oi := { dst := some 23, op := Op.move (Operand.tmp 7), type := 3, pos := "print.go:148", after := #[], guard := none }) (v := ?_) rfl (by kernel_rfl) (by kernel_rfl) (by kernel_rfl) (by kernel_rfl) (fun _ _ _ h => h) (Or.inl ⟨by rfl, ?hy4⟩) hS0 ?_
    case hy4 => (intro w hSw; have hSw := hSw rfl; (try dsimp only at hSw); go_simp; try with_reducible rfl)
    try simp only [Act.put, List.setIfInBounds_toArray, List.set_cons_zero, List.set_cons_succ]
    refine LAny.take (i := 6) (oi := { dst := some 25, op := Op.load 129 (Operand.tmp 5), type := 129, pos := "print.go:148", after := #[], guard := none }) (v := ?_) rfl (by kernel_rfl) (by kernel_rfl) (by kernel_rfl) (by kernel_rfl) (fun _ _ _ h => h) (Or.inl ⟨by rfl, ?hy5⟩) hS0 ?_
    case hy5 => (intro w hSw; have hSw := hSw rfl; (try dsimp only at hSw); go_simp; try with_reducible rfl)
    try simp only [Act.put, List.setIfInBounds_toArray, List.set_cons_zero, List.set_cons_succ]
    refine LAny.take (i := 7) (oi := { dst := some 26, op := Op.move (Operand.tmp 7), type := 3, pos := "print.go:148", after := #[], guard := none }) (v := ?_) rfl (by kernel_rfl) (by kernel_rfl) (by kernel_rfl) (by kernel_rfl) (fun _ _ _ h => h) (Or.inl ⟨by rfl, ?hy6⟩) hS0 ?_
    case hy6 => (intro w hSw; have hSw := hSw rfl; (try dsimp only at hSw); go_simp; try with_reducible rfl)
    try simp only [Act.put, List.setIfInBounds_toArray, List.set_cons_zero, List.set_cons_succ]
    refine LAny.take (i := 8) (oi := { dst := some 27, op := Op.binOp BinOp.add 3 (Operand.tmp 26) (Operand.const (Value.int IntKind.i64 1)) 3, type := 3, pos := "print.go:148", after := #[{ on := 7, ground := Ground.data }], guard := none }) (v := ?_) rfl (by kernel_rfl) (by kernel_rfl) (by kernel_rfl) (by kernel_rfl) (fun _ _ _ h => h) (Or.inl ⟨by rfl, ?hy7⟩) hS0 ?_
    case hy7 => (intro w hSw; have hSw := hSw rfl; (try dsimp only at hSw); go_simp; try with_reducible rfl)
    try simp only [Act.put, List.setIfInBounds_toArray, List.set_cons_zero, List.set_cons_succ]
    refine LAny.take (i := 10) (oi := { dst := some 29, op := Op.move (Operand.tmp 7), type := 3, pos := "print.go:148", after := #[], guard := none }) (v := ?_) rfl (by kernel_rfl) (by kernel_rfl) (by kernel_rfl) (by kernel_rfl) (fun _ _ _ h => h) (Or.inl ⟨by rfl, ?hy8⟩) hS0 ?_
    case hy8 => (intro w hSw; have hSw := hSw rfl; (try dsimp only at hSw); go_simp; try with_reducible rfl)
    try simp only [Act.put, List.setIfInBounds_toArray, List.set_cons_zero, List.set_cons_succ]
    rw [show IntKind.i64.wrap 2 = 2 from by decide]
    refine LAny.one (i := 2) (o := { dst := some 21, op := Op.call { callee := Callee.value (Operand.func 72), args := #[Operand.tmp 19, Operand.tmp 20], argTypes := #[129, 3] }, type := 129, pos := "print.go:148", after := #[{ on := 0, ground := Ground.data }, { on := 1, ground := Ground.data }], guard := none }) (b := false) (by kernel_rfl) rfl (by kernel_rfl) (fun K hK => ?_)
    go_simp
    with_reducible refine (least_is _ PD 1).mono ?_
    rintro y V1 ⟨v1, rfl, M1⟩
    obtain ⟨P1, t1, q1, b1, T1⟩ := M1
    have s1 := S3.turnS T1 (fun k hk => (BL k).1 hk)
    have A1 : Turn (fun k => k ∈ blP (P ++ PR0)) w V1 := A0.comp T1 (fun k hk q => OL k q)
    have PS1 := PS.turn T1 (fun k hk q => DS k hk (.inl q))
    have PR1 := PR.turn T1 (fun k hk q => DR k hk q)
    have N1 : ∀ k ∈ blP P1, k ∈ blP P ∨ W3.heap.size ≤ k := b1
    have nd1 : (blP (P1 ++ PZ)).Nodup := by
      rw [blP_append, List.nodup_append]
      refine ⟨q1.nodup, PS.nodup, fun c hc d hd e => ?_⟩
      subst e
      rcases N1 c hc with z | z
      · exact DS c hd (.inl z)
      · have := (PS.blk c hd).lt
        have : W3.drew.heap.size = W3.heap.size := rfl
        omega
    go_simp
    refine hK.out _ _ ?hs9 (fun hS9 => ?_)
    case hs9 => exact fun _ => s1.1
    clear hK K hS0
    refine LAny.one (i := 5) (o := { dst := some 24, op := Op.call { callee := Callee.value (Operand.func 71), args := #[Operand.tmp 21, Operand.tmp 22, Operand.tmp 23], argTypes := #[129, 129, 3] }, type := 129, pos := "print.go:148", after := #[{ on := 2, ground := Ground.data }, { on := 3, ground := Ground.data }, { on := 4, ground := Ground.data }, { on := 2, ground := Ground.chain }], guard := none }) (b := false) (by kernel_rfl) rfl (by kernel_rfl) (fun K hK => ?_)
    go_simp
    with_reducible refine (join_is _ q1 PS1 nd1 1).mono ?_
    rintro y V2 ⟨v2, rfl, M2⟩
    obtain ⟨P2, t2, q2, b2, T2⟩ := M2
    have N2 : ∀ k ∈ blP (P1 ++ PZ), k ∈ blP P ∨ k ∈ blP PZ ∨ W3.heap.size ≤ k := fun k hk => by
      rw [blP_append, List.mem_append] at hk
      rcases hk with hk | hk
      · rcases N1 k hk with z | z
        · exact .inl z
        · exact .inr (.inr z)
      · exact .inr (.inl hk)
    have s2 := s1.turnS T2 (fun k hk => BL2 k (N2 k hk))
    have A2 : Turn (fun k => k ∈ blP (P ++ PR0)) w V2 := A1.comp T2 (fun k hk q => OL2 k hk (N2 k q))
    have PR2 := PR1.turn T2 (fun k hk q => DR2 k hk (N2 k q))
    go_simp
    refine hK.out _ _ ?hs10 (fun hS10 => ?_)
    case hs10 => exact fun _ => s2.1
    clear hK K hS9
    refine LAny.one (i := 9) (o := { dst := some 28, op := Op.call { callee := Callee.value (Operand.func 72), args := #[Operand.tmp 25, Operand.tmp 27], argTypes := #[129, 3] }, type := 129, pos := "print.go:148", after := #[{ on := 6, ground := Ground.data }, { on := 8, ground := Ground.data }, { on := 5, ground := Ground.chain }], guard := none }) (b := false) (by kernel_rfl) rfl (by kernel_rfl) (fun K hK => ?_)
    go_simp
    with_reducible refine (least_is _ PR2 2).mono ?_
    rintro y V3 ⟨v3, rfl, M3⟩
    obtain ⟨P3, t3, q3, b3, T3⟩ := M3
    have s3 := s2.turnS T3 (fun k hk => (BL k).2 hk)
    have A3 : Turn (fun k => k ∈ blP (P ++ PR0)) w V3 := A2.comp T3 (fun k hk q => OR k q)
    have N4 : ∀ k ∈ blP P2, k ∈ blP P ∨ k ∈ blP PZ ∨ W3.heap.size ≤ k := fun k hk => by
      rcases b2 k hk with z | z
      · exact N2 k z
      · have := T1.size
        have : W3.drew.heap.size = W3.heap.size := rfl
        exact .inr (.inr (by omega))
    have q2' := q2.turn T3 (fun k hk q => DR2 k q (N4 k hk))
    have nd2 : (blP (P2 ++ P3)).Nodup := by
      rw [blP_append, List.nodup_append]
      refine ⟨q2.nodup, q3.nodup, fun c hc d hd e => ?_⟩
      subst e
      rcases b3 c hd with z | z
      · exact DR2 c z (N4 c hc)
      · have := (q2.blk c hc).lt
        omega
    go_simp
    refine hK.out _ _ ?hs11 (fun hS11 => ?_)
    case hs11 => exact fun _ => s3.1
    clear hK K hS10
    refine LAny.one (i := 11) (o := { dst := some 30, op := Op.call { callee := Callee.value (Operand.func 71), args := #[Operand.tmp 24, Operand.tmp 28, Operand.tmp 29], argTypes := #[129, 129, 3] }, type := 129, pos := "print.go:148", after := #[{ on := 5, ground := Ground.data }, { on := 9, ground := Ground.data }, { on := 10, ground := Ground.data }, { on := 9, ground := Ground.chain }], guard := none }) (b := false) (by kernel_rfl) rfl (by kernel_rfl) (fun K hK => ?_)
    go_simp
    with_reducible refine (join_is _ q2' q3 nd2 1).mono ?_
    rintro y V4 ⟨v4, rfl, M4⟩
    obtain ⟨P4, t4, q4, b4, T4⟩ := M4
    have N5 : ∀ k ∈ blP (P2 ++ P3), k ∈ blP P ∨ k ∈ blP PZ ∨ W3.heap.size ≤ k ∨ k ∈ blP PR0 := fun k hk => by
      rw [blP_append, List.mem_append] at hk
      rcases hk with hk | hk
      · rcases N4 k hk with z | z | z
        · exact .inl z
        · exact .inr (.inl z)
        · exact .inr (.inr (.inl z))
      · rcases b3 k hk with z | z
        · exact .inr (.inr (.inr z))
        · have := T1.size
          have := T2.size
          have : W3.drew.heap.size = W3.heap.size := rfl
          exact .inr (.inr (.inl (by omega)))
    have s4 := s3.turnS T4 (fun k hk => BL3 k (N5 k hk))
    have A4 : Turn (fun k => k ∈ blP (P ++ PR0)) w V4 := A3.comp T4 (fun k hk q => OL3 k hk (N5 k q))
    have y0 := s4.2.1 0 _ rfl
    have y1 := s4.2.1 1 _ rfl
    have y2 := s4.2.1 2 _ rfl
    have ff := s4.2.2.fz
    have FIN := Lib.hid (And.intro s4 (And.intro A4 (And.intro q4 (And.intro t4 (fun k hk => (b4 k hk).elim (fun z => BL4B k (N5 k z)) (fun h => Or.inr (by have := A3.size; have := T1.size; have := T2.size; have := T3.size; have e0 : W3.drew.heap.size = W3.heap.size := rfl; omega)))))))
    obtain ⟨Q4, x4, a4, e4, rfl, c4, n4⟩ := q4
    go_simp
    refine hK.out _ _ ?hs12 (fun hS12 => ?_)
    case hs12 => exact fun _ => s4.1
    clear hK K hS11
    refine LAny.one (i := 12) (o := { dst := none, op := Op.store 129 (Operand.tmp 6) (Operand.tmp 30), type := 0, pos := "print.go:148", after := #[{ on := 11, ground := Ground.data }, { on := 11, ground := Ground.chain }, { on := 0, ground := Ground.phase }, { on := 1, ground := Ground.phase }, { on := 2, ground := Ground.phase }, { on := 3, ground := Ground.phase }, { on := 4, ground := Ground.phase }, { on := 5, ground := Ground.phase }, { on := 6, ground := Ground.phase }, { on := 7, ground := Ground.phase }, { on := 8, ground := Ground.phase }, { on := 9, ground := Ground.phase }, { on := 10, ground := Ground.phase }, { on := 11, ground := Ground.phase }], guard := none }) (b := true) (by kernel_rfl) rfl (by kernel_rfl) (fun K hK => ?_)
    go_simp
    refine hK.out _ _ ?hs13 (fun hS13 => ?_)
    case hs13 => exact fun h => by cases h
    clear hK K hS12
    refine LAny.done (by kernel_rfl) ?_ _
    skip
    go_wp2_with fail
    refine part_end rfl FIN.out.1.2.1 rfl FIN.out.1.2.2 _ _ _ rfl rfl (fun W' T => ?_)
    have hq4 := FIN.out.2.2.1
    have hhold : holdT o = 1 := by unfold holdT; first | exact if_pos HK.out | exact if_neg HK.out
    have hsgn : reckonsT.getD o ⟨#[]⟩ = sg := by rw [List.getD_eq_getElem?_getD, HO.out.2]; rfl
    unfold bothT
    rw [hhold, hsgn]
    refine ⟨_, rfl, P4, ?_, hq4.turn T (fun c hc q => ?_), fun c hc => ?_, FIN.out.2.1.comp T (fun c hc q => by omega)⟩
    · rw [FIN.out.2.2.2.1, txP_append, t2, txP_append, t1, t3, HTZ.out]
      rfl
    · rcases FIN.out.2.2.2.2 c hc with z | z
      · have := LT c z; omega
      · have := FIN.out.1.2.2.lt; omega
    · rcases FIN.out.2.2.2.2 c hc with z | z
      · exact .inl z
      · exact .inr (by omega)

  · have u1 : decide ((o : Int) + 1 ≥ 3) = false := decide_eq_false (by omega)
    have u2 : decide (3 ≤ (o : Int) + 1) = false := decide_eq_false (by omega)
    have HK := Lib.hid hk
    clear hk ho e e2
    go_enter Tryz.func73, Tryz.ntmps73
    have PK := Lib.hid (fun W => reckons_is W)
    go_upto_region 4 with fail
    rw [← HW.out]
    clear HW
    go_wp2_with fail
    with_reducible refine (PK.out W).mono ?_
    rintro y W1 ⟨g, cap, rfl, R4, T4⟩
    rw [show reckonsT.length = 5 from rfl]
    have hcell : W1.cell? ⟨g, o, none⟩ = some (.string sg) := by
      have := R4 o (.string sg) (by rw [List.getElem?_map, HO.out.2]; rfl)
      rw [Nat.zero_add] at this
      exact this
    have G1 := Lib.hid T4
    clear R4 T4
    have o0 : (0 : Int) ≤ (o : Int) := Int.natCast_nonneg o
    have o1 : (o : Int) < 5 := by have := HO.out.1; omega
    have HS := Lib.hid (fun W (t : ByteArray) => single_is W t)
    go_wp2_with fail
    with_reducible refine (HS.out _ _).mono ?_
    rintro y W2 ⟨vs, rfl, MS⟩
    obtain ⟨PZ, tz, qz, bz, Tz⟩ := MS
    obtain ⟨Qs, xs, ag, es, rfl, cs, ns⟩ := id qz
    obtain ⟨W3, hW3⟩ : ∃ X, X = W2.alloc (.cells #[.pointer (some ag), .pointer (some ⟨xs.1, 0, none⟩), .int .i64 2] 129) := ⟨_, rfl⟩
    have Tz : Turn (fun _ => False) W1 W2 := Tz.more (fun _ _ q => by cases q)
    have T3 : Turn (fun _ => False) W2 W3 := by rw [hW3]; exact (Turn.refl _ _).alloc _
    have TD : Turn (fun _ => False) W3 W3.drew := (Turn.refl _ _).drewN 1
    have R5 : W3.rangeAt W2.heap.size 0 (ptL (some ag) (some ⟨xs.1, 0, none⟩) 2) := by rw [hW3]; exact range_new W2 (ptL (some ag) (some ⟨xs.1, 0, none⟩) 2) 129
    have hz3 : W3.heap.size = W2.heap.size + 1 := by rw [hW3]; simp
    have TA : Turn (fun _ => False) W W2 := G1.out.trans Tz
    have TB : Turn (fun _ => False) W W3.drew := (TA.trans T3).trans TD
    have hz : w.heap.size + 3 ≤ W.heap.size := HH.out.2.2.2.2.2.2.1.lt
    have hz1 := G1.out.size
    have hz2 := Tz.size
    have PD := (HH.out.1.turn HH.out.2.2.1 (fun _ _ => id)).turn TB (fun _ _ => id)
    have PR := (HH.out.2.1.turn HH.out.2.2.1 (fun _ _ => id)).turn TB (fun _ _ => id)
    have PS := (qz.turn T3 (fun _ _ => id)).turn TD (fun _ _ => id)
    have R1 := range_turn HH.out.2.2.2.1 TB id
    have R2 := range_turn HH.out.2.2.2.2.1 TB id
    have S3 : Box4 W3.drew w.heap.size W2.heap.size a ⟨x.1, 0, none⟩ h a2 ⟨x2.1, 0, none⟩ h2 ag ⟨xs.1, 0, none⟩ := ⟨⟨⟨R1 0 _ rfl, R1 1 _ rfl, R1 2 _ rfl⟩, ⟨R2 0 _ rfl, R2 1 _ rfl, R2 2 _ rfl⟩, ⟨R5 0 _ rfl, R5 1 _ rfl, R5 2 _ rfl⟩⟩, range_turn HH.out.2.2.2.2.2.1 TB id, HH.out.2.2.2.2.2.2.1.turn TB id⟩
    have sD := S3.1
    have A0 : Turn (fun k => k ∈ blP (P ++ PR0)) w W3.drew := (HH.out.2.2.1.trans TB).more (fun _ _ f => f.elim)
    have LT := HH.out.2.2.2.2.2.2.2.1
    have hn := HH.out.2.2.2.2.2.2.2.2
    rw [blP_append, List.nodup_append] at hn
    have OL : ∀ k, k ∈ blP P → k ∈ blP (P ++ PR0) := fun k hk => by rw [blP_append, List.mem_append]; exact .inl hk
    have OR : ∀ k, k ∈ blP PR0 → k ∈ blP (P ++ PR0) := fun k hk => by rw [blP_append, List.mem_append]; exact .inr hk
    have ZL : ∀ k, k ∈ blP PZ → W.heap.size ≤ k ∧ k < W2.heap.size := fun k hk => by
      have h1 := (bz k hk).resolve_left (by simp)
      have h2 := (qz.blk k hk).lt
      omega
    have LP : ∀ k, k ∈ blP P → k < w.heap.size := fun k hk => LT k (OL k hk)
    have LR : ∀ k, k ∈ blP PR0 → k < w.heap.size := fun k hk => LT k (OR k hk)
    have BL : ∀ k, (k ∈ blP P → k ≠ w.heap.size ∧ k ≠ w.heap.size + 1 ∧ k ≠ w.heap.size + 2 ∧ k ≠ W2.heap.size) ∧ (k ∈ blP PR0 → k ≠ w.heap.size ∧ k ≠ w.heap.size + 1 ∧ k ≠ w.heap.size + 2 ∧ k ≠ W2.heap.size) := fun k => ⟨fun hk => by have := LP k hk; omega, fun hk => by have := LR k hk; omega⟩
    have BL2 : ∀ k, (k ∈ blP P ∨ k ∈ blP PZ ∨ W3.heap.size ≤ k) → k ≠ w.heap.size ∧ k ≠ w.heap.size + 1 ∧ k ≠ w.heap.size + 2 ∧ k ≠ W2.heap.size := fun k hk => by
      rcases hk with hk | hk | hk
      · exact (BL k).1 hk
      · have := ZL k hk; omega
      · omega
    have BL3 : ∀ k, (k ∈ blP P ∨ k ∈ blP PZ ∨ W3.heap.size ≤ k ∨ k ∈ blP PR0) → k ≠ w.heap.size ∧ k ≠ w.heap.size + 1 ∧ k ≠ w.heap.size + 2 ∧ k ≠ W2.heap.size := fun k hk => by
      rcases hk with hk | hk | hk | hk
      · exact (BL k).1 hk
      · have := ZL k hk; omega
      · omega
      · exact (BL k).2 hk
    have BL4 : ∀ k, (k ∈ blP P ∨ k ∈ blP PZ ∨ W3.heap.size ≤ k ∨ k ∈ blP PR0) → k ∈ blP (P ++ PR0) ∨ w.heap.size ≤ k := fun k hk => by
      rcases hk with hk | hk | hk | hk
      · exact .inl (OL k hk)
      · have := ZL k hk; exact .inr (by omega)
      · exact .inr (by omega)
      · exact .inl (OR k hk)
    have OL2 : ∀ k, k < w.heap.size → (k ∈ blP P ∨ k ∈ blP PZ ∨ W3.heap.size ≤ k) → k ∈ blP (P ++ PR0) := fun k h1 hk => (BL4 k (by rcases hk with q | q | q; exact .inl q; exact .inr (.inl q); exact .inr (.inr (.inl q)))).resolve_right (by omega)
    have OL3 : ∀ k, k < w.heap.size → (k ∈ blP P ∨ k ∈ blP PZ ∨ W3.heap.size ≤ k ∨ k ∈ blP PR0) → k ∈ blP (P ++ PR0) := fun k h1 hk => (BL4 k hk).resolve_right (by omega)
    have DS : ∀ k, k ∈ blP PZ → (k ∈ blP P ∨ k ∈ blP PR0) → False := fun k hk q => by
      have := ZL k hk
      rcases q with q | q
      · have := LP k q; omega
      · have := LR k q; omega
    have DR : ∀ k, k ∈ blP PR0 → k ∈ blP P → False := fun k h1 h2 => hn.2.2 k h2 k h1 rfl
    have DR2 : ∀ k, k ∈ blP PR0 → (k ∈ blP P ∨ k ∈ blP PZ ∨ W3.heap.size ≤ k) → False := fun k h1 hk => by
      have := LR k h1
      rcases hk with hk | hk | hk
      · exact DR k h1 hk
      · have := ZL k hk; omega
      · omega
    have BL4B : ∀ k, (k ∈ blP P ∨ k ∈ blP PZ ∨ W3.heap.size ≤ k ∨ k ∈ blP PR0) → k ∈ blP (P ++ PR0) ∨ w.heap.size + 3 ≤ k := fun k hk => by
      rcases hk with hk | hk | hk | hk
      · exact .inl (OL k hk)
      · have := ZL k hk; exact .inr (by omega)
      · exact .inr (by omega)
      · exact .inl (OR k hk)
    have HW3 := Lib.hid hW3
    have HTZ := Lib.hid tz
    clear hW3 T3 TD R5 TA TB R1 R2 hn hcell es cs ns o0 o1
    go_upto_region 5 with fail
    rw [← HW3.out]
    clear HW3
    refine lany_start 12 (fun zb w' => zb = false → (fun w' => (w'.cell? ⟨w.heap.size, 0, none⟩ = some (.pointer (some a)) ∧ w'.cell? ⟨w.heap.size, 1, none⟩ = some (.pointer (some ⟨x.1, 0, none⟩)) ∧ w'.cell? ⟨w.heap.size, 2, none⟩ = some (.int .i64 h)) ∧ (w'.cell? ⟨w.heap.size + 1, 0, none⟩ = some (.pointer (some a2)) ∧ w'.cell? ⟨w.heap.size + 1, 1, none⟩ = some (.pointer (some ⟨x2.1, 0, none⟩)) ∧ w'.cell? ⟨w.heap.size + 1, 2, none⟩ = some (.int .i64 h2)) ∧ (w'.cell? ⟨W2.heap.size, 0, none⟩ = some (.pointer (some ag)) ∧ w'.cell? ⟨W2.heap.size, 1, none⟩ = some (.pointer (some ⟨xs.1, 0, none⟩)) ∧ w'.cell? ⟨W2.heap.size, 2, none⟩ = some (.int .i64 2))) w') (by kernel_rfl) ?hs0 (fun hS0 => ?_)
    case hs0 => exact fun _ => sD
    refine LAny.take (i := 0) (oi := { dst := some 19, op := Op.load 129 (Operand.tmp 4), type := 129, pos := "print.go:148", after := #[], guard := none }) (v := ?_) rfl (by kernel_rfl) (by kernel_rfl) (by kernel_rfl) (by kernel_rfl) (fun _ _ _ h => h) (Or.inl ⟨by rfl, ?hy1⟩) hS0 ?_
    case hy1 => (intro w hSw; have hSw := hSw rfl; (try dsimp only at hSw); go_simp; try with_reducible rfl)
    try simp only [Act.put, List.setIfInBounds_toArray, List.set_cons_zero, List.set_cons_succ]
    refine LAny.take (i := 1) (oi := { dst := some 20, op := Op.move (Operand.tmp 7), type := 3, pos := "print.go:148", after := #[], guard := none }) (v := ?_) rfl (by kernel_rfl) (by kernel_rfl) (by kernel_rfl) (by kernel_rfl) (fun _ _ _ h => h) (Or.inl ⟨by rfl, ?hy2⟩) hS0 ?_
    case hy2 => (intro w hSw; have hSw := hSw rfl; (try dsimp only at hSw); go_simp; try with_reducible rfl)
    try simp only [Act.put, List.setIfInBounds_toArray, List.set_cons_zero, List.set_cons_succ]
    refine LAny.take (i := 3) (oi := { dst := some 22, op := Op.load 129 (Operand.tmp 8), type := 129, pos := "print.go:148", after := #[], guard := none }) (v := ?_) rfl (by kernel_rfl) (by kernel_rfl) (by kernel_rfl) (by kernel_rfl) (fun _ _ _ h => h) (Or.inl ⟨by rfl, ?hy3⟩) hS0 ?_
    case hy3 => (intro w hSw; have hSw := hSw rfl; (try dsimp only at hSw); go_simp; try with_reducible rfl)
    try simp only [Act.put, List.setIfInBounds_toArray, List.set_cons_zero, List.set_cons_succ]
    refine LAny.take (i := 4) (oi := { dst := some 23, op := Op.move (Operand.tmp 7), type := 3, pos := "print.go:148", after := #[], guard := none }) (v := ?_) rfl (by kernel_rfl) (by kernel_rfl) (by kernel_rfl) (by kernel_rfl) (fun _ _ _ h => h) (Or.inl ⟨by rfl, ?hy4⟩) hS0 ?_
    case hy4 => (intro w hSw; have hSw := hSw rfl; (try dsimp only at hSw); go_simp; try with_reducible rfl)
    try simp only [Act.put, List.setIfInBounds_toArray, List.set_cons_zero, List.set_cons_succ]
    refine LAny.take (i := 6) (oi := { dst := some 25, op := Op.load 129 (Operand.tmp 5), type := 129, pos := "print.go:148", after := #[], guard := none }) (v := ?_) rfl (by kernel_rfl) (by kernel_rfl) (by kernel_rfl) (by kernel_rfl) (fun _ _ _ h => h) (Or.inl ⟨by rfl, ?hy5⟩) hS0 ?_
    case hy5 => (intro w hSw; have hSw := hSw rfl; (try dsimp only at hSw); go_simp; try with_reducible rfl)
    try simp only [Act.put, List.setIfInBounds_toArray, List.set_cons_zero, List.set_cons_succ]
    refine LAny.take (i := 7) (oi := { dst := some 26, op := Op.move (Operand.tmp 7), type := 3, pos := "print.go:148", after := #[], guard := none }) (v := ?_) rfl (by kernel_rfl) (by kernel_rfl) (by kernel_rfl) (by kernel_rfl) (fun _ _ _ h => h) (Or.inl ⟨by rfl, ?hy6⟩) hS0 ?_
    case hy6 => (intro w hSw; have hSw := hSw rfl; (try dsimp only at hSw); go_simp; try with_reducible rfl)
    try simp only [Act.put, List.setIfInBounds_toArray, List.set_cons_zero, List.set_cons_succ]
    refine LAny.take (i := 8) (oi := { dst := some 27, op := Op.binOp BinOp.add 3 (Operand.tmp 26) (Operand.const (Value.int IntKind.i64 1)) 3, type := 3, pos := "print.go:148", after := #[{ on := 7, ground := Ground.data }], guard := none }) (v := ?_) rfl (by kernel_rfl) (by kernel_rfl) (by kernel_rfl) (by kernel_rfl) (fun _ _ _ h => h) (Or.inl ⟨by rfl, ?hy7⟩) hS0 ?_
    case hy7 => (intro w hSw; have hSw := hSw rfl; (try dsimp only at hSw); go_simp; try with_reducible rfl)
    try simp only [Act.put, List.setIfInBounds_toArray, List.set_cons_zero, List.set_cons_succ]
    refine LAny.take (i := 10) (oi := { dst := some 29, op := Op.move (Operand.tmp 7), type := 3, pos := "print.go:148", after := #[], guard := none }) (v := ?_) rfl (by kernel_rfl) (by kernel_rfl) (by kernel_rfl) (by kernel_rfl) (fun _ _ _ h => h) (Or.inl ⟨by rfl, ?hy8⟩) hS0 ?_
    case hy8 => (intro w hSw; have hSw := hSw rfl; (try dsimp only at hSw); go_simp; try with_reducible rfl)
    try simp only [Act.put, List.setIfInBounds_toArray, List.set_cons_zero, List.set_cons_succ]
    rw [show IntKind.i64.wrap 1 = 1 from by decide]
    refine LAny.one (i := 2) (o := { dst := some 21, op := Op.call { callee := Callee.value (Operand.func 72), args := #[Operand.tmp 19, Operand.tmp 20], argTypes := #[129, 3] }, type := 129, pos := "print.go:148", after := #[{ on := 0, ground := Ground.data }, { on := 1, ground := Ground.data }], guard := none }) (b := false) (by kernel_rfl) rfl (by kernel_rfl) (fun K hK => ?_)
    go_simp
    with_reducible refine (least_is _ PD 0).mono ?_
    rintro y V1 ⟨v1, rfl, M1⟩
    obtain ⟨P1, t1, q1, b1, T1⟩ := M1
    have s1 := S3.turnS T1 (fun k hk => (BL k).1 hk)
    have A1 : Turn (fun k => k ∈ blP (P ++ PR0)) w V1 := A0.comp T1 (fun k hk q => OL k q)
    have PS1 := PS.turn T1 (fun k hk q => DS k hk (.inl q))
    have PR1 := PR.turn T1 (fun k hk q => DR k hk q)
    have N1 : ∀ k ∈ blP P1, k ∈ blP P ∨ W3.heap.size ≤ k := b1
    have nd1 : (blP (P1 ++ PZ)).Nodup := by
      rw [blP_append, List.nodup_append]
      refine ⟨q1.nodup, PS.nodup, fun c hc d hd e => ?_⟩
      subst e
      rcases N1 c hc with z | z
      · exact DS c hd (.inl z)
      · have := (PS.blk c hd).lt
        have : W3.drew.heap.size = W3.heap.size := rfl
        omega
    go_simp
    refine hK.out _ _ ?hs9 (fun hS9 => ?_)
    case hs9 => exact fun _ => s1.1
    clear hK K hS0
    refine LAny.one (i := 5) (o := { dst := some 24, op := Op.call { callee := Callee.value (Operand.func 71), args := #[Operand.tmp 21, Operand.tmp 22, Operand.tmp 23], argTypes := #[129, 129, 3] }, type := 129, pos := "print.go:148", after := #[{ on := 2, ground := Ground.data }, { on := 3, ground := Ground.data }, { on := 4, ground := Ground.data }, { on := 2, ground := Ground.chain }], guard := none }) (b := false) (by kernel_rfl) rfl (by kernel_rfl) (fun K hK => ?_)
    go_simp
    with_reducible refine (join_is _ q1 PS1 nd1 0).mono ?_
    rintro y V2 ⟨v2, rfl, M2⟩
    obtain ⟨P2, t2, q2, b2, T2⟩ := M2
    have N2 : ∀ k ∈ blP (P1 ++ PZ), k ∈ blP P ∨ k ∈ blP PZ ∨ W3.heap.size ≤ k := fun k hk => by
      rw [blP_append, List.mem_append] at hk
      rcases hk with hk | hk
      · rcases N1 k hk with z | z
        · exact .inl z
        · exact .inr (.inr z)
      · exact .inr (.inl hk)
    have s2 := s1.turnS T2 (fun k hk => BL2 k (N2 k hk))
    have A2 : Turn (fun k => k ∈ blP (P ++ PR0)) w V2 := A1.comp T2 (fun k hk q => OL2 k hk (N2 k q))
    have PR2 := PR1.turn T2 (fun k hk q => DR2 k hk (N2 k q))
    go_simp
    refine hK.out _ _ ?hs10 (fun hS10 => ?_)
    case hs10 => exact fun _ => s2.1
    clear hK K hS9
    refine LAny.one (i := 9) (o := { dst := some 28, op := Op.call { callee := Callee.value (Operand.func 72), args := #[Operand.tmp 25, Operand.tmp 27], argTypes := #[129, 3] }, type := 129, pos := "print.go:148", after := #[{ on := 6, ground := Ground.data }, { on := 8, ground := Ground.data }, { on := 5, ground := Ground.chain }], guard := none }) (b := false) (by kernel_rfl) rfl (by kernel_rfl) (fun K hK => ?_)
    go_simp
    with_reducible refine (least_is _ PR2 1).mono ?_
    rintro y V3 ⟨v3, rfl, M3⟩
    obtain ⟨P3, t3, q3, b3, T3⟩ := M3
    have s3 := s2.turnS T3 (fun k hk => (BL k).2 hk)
    have A3 : Turn (fun k => k ∈ blP (P ++ PR0)) w V3 := A2.comp T3 (fun k hk q => OR k q)
    have N4 : ∀ k ∈ blP P2, k ∈ blP P ∨ k ∈ blP PZ ∨ W3.heap.size ≤ k := fun k hk => by
      rcases b2 k hk with z | z
      · exact N2 k z
      · have := T1.size
        have : W3.drew.heap.size = W3.heap.size := rfl
        exact .inr (.inr (by omega))
    have q2' := q2.turn T3 (fun k hk q => DR2 k q (N4 k hk))
    have nd2 : (blP (P2 ++ P3)).Nodup := by
      rw [blP_append, List.nodup_append]
      refine ⟨q2.nodup, q3.nodup, fun c hc d hd e => ?_⟩
      subst e
      rcases b3 c hd with z | z
      · exact DR2 c z (N4 c hc)
      · have := (q2.blk c hc).lt
        omega
    go_simp
    refine hK.out _ _ ?hs11 (fun hS11 => ?_)
    case hs11 => exact fun _ => s3.1
    clear hK K hS10
    refine LAny.one (i := 11) (o := { dst := some 30, op := Op.call { callee := Callee.value (Operand.func 71), args := #[Operand.tmp 24, Operand.tmp 28, Operand.tmp 29], argTypes := #[129, 129, 3] }, type := 129, pos := "print.go:148", after := #[{ on := 5, ground := Ground.data }, { on := 9, ground := Ground.data }, { on := 10, ground := Ground.data }, { on := 9, ground := Ground.chain }], guard := none }) (b := false) (by kernel_rfl) rfl (by kernel_rfl) (fun K hK => ?_)
    go_simp
    with_reducible refine (join_is _ q2' q3 nd2 0).mono ?_
    rintro y V4 ⟨v4, rfl, M4⟩
    obtain ⟨P4, t4, q4, b4, T4⟩ := M4
    have N5 : ∀ k ∈ blP (P2 ++ P3), k ∈ blP P ∨ k ∈ blP PZ ∨ W3.heap.size ≤ k ∨ k ∈ blP PR0 := fun k hk => by
      rw [blP_append, List.mem_append] at hk
      rcases hk with hk | hk
      · rcases N4 k hk with z | z | z
        · exact .inl z
        · exact .inr (.inl z)
        · exact .inr (.inr (.inl z))
      · rcases b3 k hk with z | z
        · exact .inr (.inr (.inr z))
        · have := T1.size
          have := T2.size
          have : W3.drew.heap.size = W3.heap.size := rfl
          exact .inr (.inr (.inl (by omega)))
    have s4 := s3.turnS T4 (fun k hk => BL3 k (N5 k hk))
    have A4 : Turn (fun k => k ∈ blP (P ++ PR0)) w V4 := A3.comp T4 (fun k hk q => OL3 k hk (N5 k q))
    have y0 := s4.2.1 0 _ rfl
    have y1 := s4.2.1 1 _ rfl
    have y2 := s4.2.1 2 _ rfl
    have ff := s4.2.2.fz
    have FIN := Lib.hid (And.intro s4 (And.intro A4 (And.intro q4 (And.intro t4 (fun k hk => (b4 k hk).elim (fun z => BL4B k (N5 k z)) (fun h => Or.inr (by have := A3.size; have := T1.size; have := T2.size; have := T3.size; have e0 : W3.drew.heap.size = W3.heap.size := rfl; omega)))))))
    obtain ⟨Q4, x4, a4, e4, rfl, c4, n4⟩ := q4
    go_simp
    refine hK.out _ _ ?hs12 (fun hS12 => ?_)
    case hs12 => exact fun _ => s4.1
    clear hK K hS11
    refine LAny.one (i := 12) (o := { dst := none, op := Op.store 129 (Operand.tmp 6) (Operand.tmp 30), type := 0, pos := "print.go:148", after := #[{ on := 11, ground := Ground.data }, { on := 11, ground := Ground.chain }, { on := 0, ground := Ground.phase }, { on := 1, ground := Ground.phase }, { on := 2, ground := Ground.phase }, { on := 3, ground := Ground.phase }, { on := 4, ground := Ground.phase }, { on := 5, ground := Ground.phase }, { on := 6, ground := Ground.phase }, { on := 7, ground := Ground.phase }, { on := 8, ground := Ground.phase }, { on := 9, ground := Ground.phase }, { on := 10, ground := Ground.phase }, { on := 11, ground := Ground.phase }], guard := none }) (b := true) (by kernel_rfl) rfl (by kernel_rfl) (fun K hK => ?_)
    go_simp
    refine hK.out _ _ ?hs13 (fun hS13 => ?_)
    case hs13 => exact fun h => by cases h
    clear hK K hS12
    refine LAny.done (by kernel_rfl) ?_ _
    skip
    go_wp2_with fail
    refine part_end rfl FIN.out.1.2.1 rfl FIN.out.1.2.2 _ _ _ rfl rfl (fun W' T => ?_)
    have hq4 := FIN.out.2.2.1
    have hhold : holdT o = 0 := by unfold holdT; first | exact if_pos HK.out | exact if_neg HK.out
    have hsgn : reckonsT.getD o ⟨#[]⟩ = sg := by rw [List.getD_eq_getElem?_getD, HO.out.2]; rfl
    unfold bothT
    rw [hhold, hsgn]
    refine ⟨_, rfl, P4, ?_, hq4.turn T (fun c hc q => ?_), fun c hc => ?_, FIN.out.2.1.comp T (fun c hc q => by omega)⟩
    · rw [FIN.out.2.2.2.1, txP_append, t2, txP_append, t1, t3, HTZ.out]
      rfl
    · rcases FIN.out.2.2.2.2 c hc with z | z
      · have := LT c z; omega
      · have := FIN.out.1.2.2.lt; omega
    · rcases FIN.out.2.2.2.2 c hc with z | z
      · exact .inl z
      · exact .inr (by omega)

end Go.Proofs.YtadogobdlcionaaGreatDoor
