/-
  A part that holds closely enough, in brackets if it must.
-/
import Derived.Test.YtadogobdlcionaaDoorSf
namespace Go.Proofs.YtadogobdlcionaaDoor
open Go.ChangeShapes Go.WideShapes Go.ChangeAt Go.RowKit Go.Shelf
set_option linter.unusedVariables false
theorem blP_append (P Q : Pcs) : blP (P ++ Q) = blP P ++ blP Q := by simp [blP]
theorem txP_append (P Q : Pcs) : txP (P ++ Q) = txP P ++ txP Q := by simp [txP]
theorem PartAt.nodup {W : World} {P : Pcs} {h : Int} {v : Value} (hp : PartAt W P h v) : (blP P).Nodup := by
  obtain ⟨Q, x, a, e1, e2, e3, e4⟩ := hp
  exact e4
theorem Made.up {w W W' : World} {old old2 : List Nat} {ts : List ByteArray} {h : Int} {v : Value} (M : Made W W' old2 ts h v) (T : Turn (fun k => k ∈ old) w W) (hs : ∀ k ∈ old2, k ∈ old ∨ w.heap.size ≤ k) : Made w W' old ts h v := by
  obtain ⟨P, a, b, c, d⟩ := M
  have := T.size
  refine ⟨P, a, b, fun k hk => ?_, T.comp d (fun k hk q => (hs k q).resolve_right (by omega))⟩
  rcases c k hk with q | q
  · exact hs k q
  · exact .inr (by omega)
abbrev opB : ByteArray := ⟨#[40]⟩
abbrev shB : ByteArray := ⟨#[41]⟩
/-- At least so close. -/
def leastT (p : List ByteArray × Int) (k : Int) : List ByteArray × Int := if k ≤ p.2 then p else ([opB] ++ p.1 ++ [shB], 2)
/-- The box of a part, and that of the result. -/
def Box2 (W : World) (N : Nat) (a b : Addr) (h : Int) (M : Nat) : Prop :=
  (W.cell? ⟨N, 0, none⟩ = some (.pointer (some a)) ∧ W.cell? ⟨N, 1, none⟩ = some (.pointer (some b)) ∧ W.cell? ⟨N, 2, none⟩ = some (.int .i64 h)) ∧ W.rangeAt M 0 zpt ∧ Blk W M 91
theorem Box2.turn {W W' : World} {N M : Nat} {a b : Addr} {h : Int} (s : Box2 W N a b h M) (T : Turn (fun _ => False) W W') : Box2 W' N a b h M :=
  ⟨⟨T.cell id s.1.1, T.cell id s.1.2.1, T.cell id s.1.2.2⟩, range_turn s.2.1 T id, s.2.2.turn T id⟩
theorem Box2.turnS {W W' : World} {N M : Nat} {a b : Addr} {h : Int} {old : List Nat} (s : Box2 W N a b h M) (T : Turn (fun k => k ∈ old) W W') (hs : ∀ k ∈ old, k ≠ N ∧ k ≠ M) : Box2 W' N a b h M :=
  have h1 : ¬ N ∈ old := fun q => (hs N q).1 rfl
  have h2 : ¬ M ∈ old := fun q => (hs M q).2 rfl
  ⟨⟨T.cell h1 s.1.1, T.cell h1 s.1.2.1, T.cell h1 s.1.2.2⟩, range_turn s.2.1 T h2, s.2.2.turn T h2⟩
set_option maxRecDepth 100000 in
set_option maxHeartbeats 4000000 in
theorem least_is (w : World) {P : Pcs} {h : Int} {v : Value} (hp : PartAt w P h v) (k : Int) :
    Calls Tryd.prog 46 #[v, .int .i64 k] w fun y w' => ∃ v', y = .returned v' ∧ Made w w' (blP P) (leastT (txP P, h) k).1 (leastT (txP P, h) k).2 v' := by
  have HP0 := hp
  obtain ⟨Q, x, a, e, rfl, c, n⟩ := hp
  obtain ⟨W, hW⟩ : ∃ W, W = (w.alloc (.cells #[.pointer (some a), .pointer (some ⟨x.1, 0, none⟩), .int .i64 h] 91)).alloc (.cells #[.pointer none, .pointer none, .int .i64 0] 91) := ⟨_, rfl⟩
  have T0 : Turn (fun _ => False) w W := by rw [hW]; exact ((Turn.refl _ _).alloc _).alloc _
  have U1 : Turn (fun _ => False) (w.alloc (.cells #[.pointer (some a), .pointer (some ⟨x.1, 0, none⟩), .int .i64 h] 91)) W := by rw [hW]; exact (Turn.refl _ _).alloc _
  have R1 : W.rangeAt w.heap.size 0 (ptL (some a) (some ⟨x.1, 0, none⟩) h) := range_turn (range_new w (ptL (some a) (some ⟨x.1, 0, none⟩) h) 91) U1 id
  have B1 : Blk W w.heap.size 91 := (Blk.new w (ptL (some a) (some ⟨x.1, 0, none⟩) h) 91).turn U1 id
  have R3 : W.rangeAt (w.heap.size + 1) 0 zpt := by
    have := range_new (w.alloc (.cells #[.pointer (some a), .pointer (some ⟨x.1, 0, none⟩), .int .i64 h] 91)) zpt 91
    rw [World.size_alloc] at this; rw [hW]; exact this
  have B3 : Blk W (w.heap.size + 1) 91 := by
    have := Blk.new (w.alloc (.cells #[.pointer (some a), .pointer (some ⟨x.1, 0, none⟩), .int .i64 h] 91)) zpt 91
    rw [World.size_alloc] at this; rw [hW]; exact this
  have SB : Box2 W w.heap.size a ⟨x.1, 0, none⟩ h (w.heap.size + 1) := ⟨⟨R1 0 _ rfl, R1 1 _ rfl, R1 2 _ rfl⟩, R3, B3⟩
  have LT : ∀ c ∈ blP P, c < w.heap.size := fun c hc => (HP0.blk c hc).lt
  have HW := Lib.hid hW
  have d0 := R1 0 _ rfl
  have d1 := R1 1 _ rfl
  have d2 := R1 2 _ rfl
  have y0 := R3 0 _ rfl
  have y1 := R3 1 _ rfl
  have y2 := R3 2 _ rfl
  have ff := B3.fz
  have HH := Lib.hid (And.intro HP0 (And.intro T0 (And.intro SB (And.intro LT B1))))
  have HE := Lib.hid e
  clear hW T0 U1 R1 R3 B3 SB LT HP0 c n e B1
  by_cases hk : k ≤ h
  · have u1 : decide (h ≥ k) = true := decide_eq_true hk
    have u2 : decide (k ≤ h) = true := decide_eq_true hk
    have HK := Lib.hid hk
    clear hk
    go_enter Tryd.func46, Tryd.ntmps46
    go_upto_region 1 with fail
    rw [← HW.out]
    clear HW
    go_wp2_with fail
    refine part_end rfl HH.out.2.2.1.2.1 rfl HH.out.2.2.1.2.2 _ _ _ rfl rfl (fun W' T => ?_)
    rw [show leastT (txP P, h) k = (txP P, h) from if_pos HK.out]
    have HT := HH.out.2.1
    have HL := HH.out.2.2.2.1
    exact ⟨_, rfl, P, rfl, (HH.out.1.turn HT (fun _ _ => id)).turn T (fun c hc q => by have := HL c hc; omega), fun c hc => .inl hc, (HT.more (fun _ _ f => f.elim)).comp T (fun c hc q => by omega)⟩
  · have u1 : decide (h ≥ k) = false := decide_eq_false (by omega)
    have u2 : decide (k ≤ h) = false := decide_eq_false hk
    have HK := Lib.hid hk
    clear hk
    go_enter Tryd.func46, Tryd.ntmps46
    go_upto_region 1 with fail
    rw [← HW.out]
    clear HW
    go_upto_region 3 with fail
    have TD : Turn (fun _ => False) W W.drew := (Turn.refl _ _).drewN 1
    have PD := (HH.out.1.turn HH.out.2.1 (fun _ _ => id)).turn TD (fun _ _ => id)
    have S3 := HH.out.2.2.1.turn TD
    have sD := S3.1
    have SZ : w.heap.size + 1 < W.heap.size := S3.2.2.lt
    have LT0 : ∀ c ∈ blP P, c < w.heap.size := HH.out.2.2.2.1
    have A0 : Turn (fun k => k ∈ blP P) w W.drew := (HH.out.2.1.trans TD).more (fun _ _ f => f.elim)
    have LT : ∀ c ∈ blP P, c < W.heap.size := fun c hc => Nat.lt_of_lt_of_le (HH.out.2.2.2.1 c hc) HH.out.2.1.size
    clear d0 d1 d2 y0 y1 y2 ff
    refine lany_start 5 (fun zb w' => zb = false → (fun w' => w'.cell? ⟨w.heap.size, 0, none⟩ = some (.pointer (some a)) ∧ w'.cell? ⟨w.heap.size, 1, none⟩ = some (.pointer (some ⟨x.1, 0, none⟩)) ∧ w'.cell? ⟨w.heap.size, 2, none⟩ = some (.int .i64 h)) w') (by kernel_rfl) ?hs0 (fun hS0 => ?_)
    case hs0 => exact fun _ => sD
    refine LAny.take (i := 1) (oi := { dst := some 11, op := Op.load 91 (Operand.tmp 2), type := 91, pos := "print.go:44", after := #[], guard := none }) (v := ?_) rfl (by kernel_rfl) (by kernel_rfl) (by kernel_rfl) (by kernel_rfl) (fun _ _ _ h => h) (Or.inl ⟨by rfl, ?hy1⟩) hS0 ?_
    case hy1 => (intro w hSw; have hSw := hSw rfl; (try dsimp only at hSw); go_simp; try with_reducible rfl)
    try simp only [Act.put, List.setIfInBounds_toArray, List.set_cons_zero, List.set_cons_succ]
    refine LAny.one (i := 0) (o := { dst := some 10, op := Op.call { callee := Callee.value (Operand.func 43), args := #[Operand.const (Value.string { data := #[40] })], argTypes := #[9] }, type := 91, pos := "print.go:44", after := #[], guard := none }) (b := false) (by kernel_rfl) rfl (by kernel_rfl) (fun K hK => ?_)
    go_simp
    with_reducible refine (single_is _ _).mono ?_
    rintro y W1 ⟨v1, rfl, M1⟩
    obtain ⟨P1, t1, q1, b1, T1⟩ := M1
    have T1 : Turn (fun _ => False) W.drew W1 := T1.more (fun k _ q => by cases q)
    have PW1 := (PD.turn T1 (fun _ _ => id))
    have s1 := S3.turn T1
    have A1 : Turn (fun k => k ∈ blP P) w W1 := A0.trans (T1.more (fun _ _ f => f.elim))
    have nd1 : (blP (P1 ++ P)).Nodup := by
      rw [blP_append, List.nodup_append]
      refine ⟨q1.nodup, PD.nodup, fun c hc d hd e => ?_⟩
      subst e
      have := b1 c hc
      have := LT c hd
      simp at *
      omega
    go_simp
    refine hK.out _ _ ?hs2 (fun hS2 => ?_)
    case hs2 => exact fun _ => s1.1
    clear hK K hS0
    refine LAny.one (i := 2) (o := { dst := some 12, op := Op.call { callee := Callee.value (Operand.func 45), args := #[Operand.tmp 10, Operand.tmp 11, Operand.const (Value.int IntKind.i64 2)], argTypes := #[91, 91, 3] }, type := 91, pos := "print.go:44", after := #[{ on := 0, ground := Ground.data }, { on := 1, ground := Ground.data }, { on := 0, ground := Ground.chain }], guard := none }) (b := false) (by kernel_rfl) rfl (by kernel_rfl) (fun K hK => ?_)
    go_simp
    with_reducible refine (join_is _ q1 PW1 nd1 2).mono ?_
    rintro y W2 ⟨v2, rfl, M2⟩
    obtain ⟨P2, t2, q2, b2, T2⟩ := M2
    have z1 : W.heap.size ≤ W1.heap.size := T1.size
    have s2 := s1.turnS T2 (fun k hk => by
      rw [blP_append, List.mem_append] at hk
      rcases hk with hk | hk
      · have := b1 k hk
        simp at this
        omega
      · have := LT0 k hk
        omega)
    have A2 : Turn (fun k => k ∈ blP P) w W2 := A1.comp T2 (fun k hk q => by
      rw [blP_append, List.mem_append] at q
      rcases q with q | q
      · have := b1 k q
        simp at this
        omega
      · exact q)
    have N2 : ∀ k ∈ blP P2, k ∈ blP P ∨ W.heap.size ≤ k := fun k hk => by
      rcases b2 k hk with q | q
      · rw [blP_append, List.mem_append] at q
        rcases q with q | q
        · have := b1 k q
          simp at this
          exact .inr this
        · exact .inl q
      · exact .inr (by omega)
    go_simp
    refine hK.out _ _ ?hs3 (fun hS3 => ?_)
    case hs3 => exact fun _ => s2.1
    clear hK K hS2
    refine LAny.one (i := 3) (o := { dst := some 13, op := Op.call { callee := Callee.value (Operand.func 43), args := #[Operand.const (Value.string { data := #[41] })], argTypes := #[9] }, type := 91, pos := "print.go:44", after := #[{ on := 2, ground := Ground.chain }], guard := none }) (b := false) (by kernel_rfl) rfl (by kernel_rfl) (fun K hK => ?_)
    go_simp
    with_reducible refine (single_is _ _).mono ?_
    rintro y W3 ⟨v3, rfl, M3⟩
    obtain ⟨P3, t3, q3, b3, T3⟩ := M3
    have T3 : Turn (fun _ => False) W2 W3 := T3.more (fun k _ q => by cases q)
    have q2' := q2.turn T3 (fun _ _ => id)
    have s3 := s2.turn T3
    have nd2 : (blP (P2 ++ P3)).Nodup := by
      rw [blP_append, List.nodup_append]
      refine ⟨q2.nodup, q3.nodup, fun c hc d hd e => ?_⟩
      subst e
      have := b3 c hd
      have := (q2.blk c hc).lt
      simp at *
      omega
    go_simp
    refine hK.out _ _ ?hs4 (fun hS4 => ?_)
    case hs4 => exact fun _ => s3.1
    clear hK K hS3
    refine LAny.one (i := 4) (o := { dst := some 14, op := Op.call { callee := Callee.value (Operand.func 45), args := #[Operand.tmp 12, Operand.tmp 13, Operand.const (Value.int IntKind.i64 2)], argTypes := #[91, 91, 3] }, type := 91, pos := "print.go:44", after := #[{ on := 2, ground := Ground.data }, { on := 3, ground := Ground.data }, { on := 3, ground := Ground.chain }], guard := none }) (b := false) (by kernel_rfl) rfl (by kernel_rfl) (fun K hK => ?_)
    go_simp
    with_reducible refine (join_is _ q2' q3 nd2 2).mono ?_
    rintro y W4 ⟨v4, rfl, M4⟩
    obtain ⟨P4, t4, q4, b4, T4⟩ := M4
    have N23 : ∀ k ∈ blP (P2 ++ P3), k ∈ blP P ∨ W.heap.size ≤ k := fun k hk => by
      rw [blP_append, List.mem_append] at hk
      rcases hk with hk | hk
      · exact N2 k hk
      · have := b3 k hk
        have := T2.size
        simp at *
        exact .inr (by omega)
    have s4 := s3.turnS T4 (fun k hk => by
      rcases N23 k hk with q | q
      · have := LT0 k q
        omega
      · omega)
    have A4 : Turn (fun k => k ∈ blP P) w W4 := (A2.trans (T3.more (fun _ _ f => f.elim))).comp T4 (fun k hk q => (N23 k q).resolve_right (by omega))
    have FIN := Lib.hid (And.intro s4 (And.intro A4 (And.intro q4 (And.intro t4 (fun k hk => (b4 k hk).elim (N23 k) (fun h => Or.inr (by have := T1.size; have := T2.size; have := T3.size; exact Nat.le_trans (Nat.le_trans (Nat.le_trans T1.size T2.size) T3.size) h)))))))
    have y0 := s4.2.1 0 _ rfl
    have y1 := s4.2.1 1 _ rfl
    have y2 := s4.2.1 2 _ rfl
    have ff := s4.2.2.fz
    obtain ⟨Q4, x4, a4, e4, rfl, c4, n4⟩ := q4
    go_simp
    refine hK.out _ _ ?hs5 (fun hS5 => ?_)
    case hs5 => exact fun _ => s4.1
    clear hK K hS4
    refine LAny.one (i := 5) (o := { dst := none, op := Op.store 91 (Operand.tmp 4) (Operand.tmp 14), type := 0, pos := "print.go:44", after := #[{ on := 4, ground := Ground.data }, { on := 4, ground := Ground.chain }, { on := 0, ground := Ground.phase }, { on := 1, ground := Ground.phase }, { on := 2, ground := Ground.phase }, { on := 3, ground := Ground.phase }, { on := 4, ground := Ground.phase }], guard := none }) (b := true) (by kernel_rfl) rfl (by kernel_rfl) (fun K hK => ?_)
    go_simp
    refine hK.out _ _ ?hs6 (fun hS6 => ?_)
    case hs6 => exact fun h => by cases h
    clear hK K hS5
    refine LAny.done (by kernel_rfl) ?_ _
    skip
    go_wp2_with fail
    refine part_end rfl FIN.out.1.2.1 rfl FIN.out.1.2.2 _ _ _ rfl rfl (fun W' T => ?_)
    have hq4 := FIN.out.2.2.1
    rw [show leastT (txP P, h) k = ([opB] ++ txP P ++ [shB], 2) from if_neg (by have := HK.out; show ¬ k ≤ h; omega)]
    refine ⟨_, rfl, P4, ?_, hq4.turn T (fun c hc q => ?_), fun c hc => ?_, FIN.out.2.1.comp T (fun c hc q => by omega)⟩
    · rw [FIN.out.2.2.2.1, txP_append, t2, txP_append, t1, t3]
    · rcases FIN.out.2.2.2.2 c hc with z | z
      · have := LT0 c z
        omega
      · omega
    · rcases FIN.out.2.2.2.2 c hc with z | z
      · exact .inl z
      · exact .inr (by omega)
end Go.Proofs.YtadogobdlcionaaDoor
