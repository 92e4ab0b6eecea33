/-
  The walk of StoreOwn: whatever is done, it answers true, and writes nothing that was there.
-/
import Derived.Test.YtjfbjkgppnhaoaaOwn
import Derived.Test.YtjfbjkgppnhaoaaCnt
import Derived.Test.YtjfbjkgppnhaoaaActArg
import Derived.Laws.MakeOwn
import Derived.Deep.DeepCutAuto
import Derived.Deep.LoopGhost
import Derived.StillTailTactics
namespace Go.Proofs.Ytjfbjkgppnhaoaa
open Go.ChangeShapes Go.WideShapes Go.ChangeAt Go.RowKit
set_option linter.unusedVariables false

def zero9 : Array Value := #[.int .i64 0, .int .i64 0, .int .i64 0, .int .i64 0, .int .i64 0, .int .i64 0, .bool false, .int .i64 0, .int .i64 0]

theorem made_at (n k j : Nat) (hk : k < n) (hj : j < 9) : (madeCells zero9 (n * 9))[k * 9 + j]? = some (zero9[j]!) := by
  have h : k * 9 + j < n * 9 := by omega
  have e : (k * 9 + j) % 9 = j := by omega
  have hz : zero9.size = 9 := rfl
  simp [madeCells, h, hz, e]

theorem store_new (n : Nat) (h1 : 1 ≤ n) (h40 : n ≤ 40) (w : World) : Calls Try.prog 39 #[.int .i64 (n : Int)] w fun e w' => e = .returned (.pointer (some ⟨w.heap.size + 1, 0, none⟩)) ∧ Storey w' (w.heap.size + 1) w.heap.size n (fun _ _ => 0) (fun _ => false) (fun _ => 0) (fun _ => 0) ∧ Below w.heap.size w w' ∧ w'.heap.size = w.heap.size + 2 := by
  have hinfo : (Try.prog.info? 145).map (fun i => (i.zero, i.size, i.bytes)) = some (some (.agg zero9), 9, 72) := by kernel_rfl
  obtain ⟨i, hi, he⟩ := Option.map_eq_some_iff.mp hinfo
  simp only [Prod.mk.injEq] at he
  obtain ⟨hz, hs, hb⟩ := he
  have hmk : ∀ w, (Instr.makeSlice 140 (.int .i64 (n : Int)) (.int .i64 (n : Int))).run Try.prog w = .ok (.slice (some ⟨w.heap.size, 0, none⟩) n n) (w.alloc (.cells (madeCells zero9 (n * 9)) 145)) := fun w => by
    have := run_make (P := Try.prog) w 140 145 i (.agg zero9) Try.underlying140 hi hz .i64 .i64 (n : Int) (n : Int) (by omega) (by omega) (by rw [hb]; omega) (by omega)
    rw [hs] at this
    simpa [Value.cells] using this
  clear hinfo hi hz hs hb
  have c1 : ¬ (n : Int) < 1 := by omega
  have c2 : ¬ (4096 : Int) < (n : Int) := by omega
  go_enter Try.func39, Try.ntmps39
  go_wp2
  go_ret
  refine ⟨rfl, storey_new w n _ _ _ ?_, by go_grown, by simp⟩
  intro k hk
  refine ⟨fun j hj => ?_, made_at n k 6 hk (by decide), made_at n k 7 hk (by decide), made_at n k 8 hk (by decide)⟩
  have hj' : j = 0 ∨ j = 1 ∨ j = 2 ∨ j = 3 ∨ j = 4 ∨ j = 5 := by omega
  have := made_at n k j hk (by omega)
  rcases hj' with rfl | rfl | rfl | rfl | rfl | rfl <;> exact this

theorem own_slice {w : World} {base : Nat} {e : TypeId} {size : Nat} {v : Value} {n : Nat} {xs : List Value} (h : w.ownsRow base e size v n xs) : ∃ a cap, v = .slice a n cap := by
  rcases h.2 with ⟨rfl, rfl⟩ | ⟨g, cap, cur, rfl, _⟩
  · exact ⟨none, 0, rfl⟩
  · exact ⟨_, _, rfl⟩
theorem own_some {w : World} {base : Nat} {e : TypeId} {size : Nat} {v : Value} {n : Nat} {xs : List Value} (h : w.ownsRow base e size v n xs) (hn : 0 < n) : ∃ g cap, v = .slice (some ⟨g, 0, none⟩) n cap := by
  rcases h.2 with ⟨rfl, rfl⟩ | ⟨g, cap, cur, rfl, _⟩
  · omega
  · exact ⟨_, _, rfl⟩


def OwnRel (s sb n len : Nat) (wL : World) (g : Nat) (v8 v9 v10 : Value) (wr : World) : Prop :=
  ∃ (i : Nat) (R : List (Nat × Int)) (D : List Bool), v10 = .int .i64 (i : Int) ∧ i ≤ 60 ∧ g = 60 - i ∧ i ≤ len ∧ R.length ≤ i ∧ OwnSt wL s sb n v8 v9 R D R D ((i : Int) + 1) wr
def OwnMid (s sb n : Nat) (wL : World) (i : Nat) (v8 v9 : Value) (wr : World) : Prop :=
  ∃ (R : List (Nat × Int)) (D : List Bool), R.length ≤ i + 1 ∧ OwnSt wL s sb n v8 v9 R D R D ((i : Int) + 2) wr
def OwnIn (s sb n : Nat) (wL : World) (v8 v9 : Value) (R : List (Nat × Int)) (D : List Bool) (m : Int) (g : Nat) (v17 : Value) (wr : World) : Prop :=
  ∃ j : Nat, v17 = .int .i64 (j : Int) ∧ g = R.length - j ∧ j ≤ R.length ∧ OwnSt wL s sb n v8 v9 R D R D m wr

theorem refs_at {wr : World} {base g cap : Nat} {R : List (Nat × Int)} (h : wr.ownsRow base 87 2 (.slice (some ⟨g, 0, none⟩) R.length cap) R.length (refCells R)) {j S : Nat} {G : Int} (hj : R[j]? = some (S, G)) :
    wr.cell? ⟨g, j * 2, none⟩ = some (.int .i64 (S : Int)) ∧ wr.cell? ⟨g, j * 2 + 1, none⟩ = some (.int .i64 G) := by
  have hl := (List.getElem?_eq_some_iff.1 hj).1
  have := refCells_at R j S G hj
  exact ⟨(h.cellAt (j * 2) (by omega)).trans this.1, (h.cellAt (j * 2 + 1) (by omega)).trans this.2⟩
theorem gone_at {wr : World} {base g cap : Nat} {D : List Bool} (h : wr.ownsRow base 4 1 (.slice (some ⟨g, 0, none⟩) D.length cap) D.length (D.map Value.bool)) {j : Nat} {d : Bool} (hj : D[j]? = some d) :
    wr.cell? ⟨g, j, none⟩ = some (.bool d) := by
  have hl := (List.getElem?_eq_some_iff.1 hj).1
  rw [h.cellAt j (by omega)]
  simp [hj]

theorem info87 : (Try.prog.info? 87).map (fun i => (i.zero, i.size, i.bytes)) = some (some (.agg #[.int .i64 0, .int .i64 0]), 2, 16) := by kernel_rfl
theorem info4 : (Try.prog.info? 4).map (fun i => (i.zero, i.size, i.bytes)) = some (some (.bool false), 1, 1) := by kernel_rfl

theorem two_new (w : World) (x y : Value) (t : TypeId) (b : Nat) (hb : b = w.heap.size) : ∀ j u, [x, y][j]? = some u → (w.alloc (.cells #[x, y] t)).cell? ((⟨b, 0, none⟩ : Addr).add j) = some u := by
  subst hb
  intro j u h
  have hj : j = 0 ∨ j = 1 := by have := (List.getElem?_eq_some_iff.1 h).1; simp at this; omega
  rcases hj with rfl | rfl
  · simp at h
    subst h
    simp [Addr.add, World.cell?_alloc_new]
  · simp at h
    subst h
    simp [Addr.add, World.cell?_alloc_new]
theorem one_new (w : World) (x : Value) (t : TypeId) (b : Nat) (hb : b = w.heap.size) : ∀ j u, [x][j]? = some u → (w.alloc (.cells #[x] t)).cell? ((⟨b, 0, none⟩ : Addr).add j) = some u := by
  subst hb
  intro j u h
  have hj : j = 0 := by have := (List.getElem?_eq_some_iff.1 h).1; simp at this; omega
  subst hj
  simp at h
  subst h
  simp [Addr.add, World.cell?_alloc_new]

theorem wp_tail_any {P : Program} {id : Nat} {Q : Exit → Act → World → Prop} {a : Act} {w : World} {l : List Oper} (n : Nat) (hm : P.follows .mixedOrders = true) (hB : Region.lexTailB .any l.toArray n = true)
    (h : ∀ W, W = w.drew → wpStill P l.toArray W (fun a' => wpList P l.toArray Q (l.drop n) a' W) (l.take n) a) : (Code.region id l.toArray true).wp P Q a w :=
  wp_region_still_tail n hm hB (h _ rfl)

set_option maxRecDepth 100000 in
set_option maxHeartbeats 4000000 in
theorem own_walk (a0 : Int) (a1 : Option Addr) (len cap : Nat) (w : World) (hI : IsActs w a1 len) :
    Calls Try.prog 12 #[.int .i64 a0, .slice a1 len cap] w fun e w' => e = .returned (.bool true) ∧ Below w.heap.size w w' := by
  obtain ⟨R0, r0, r6, HR0⟩ := rest_store a0 6 (by decide) (by decide)
  obtain ⟨n, hn⟩ : ∃ n : Nat, 1 + R0 = (n : Int) := ⟨(1 + R0).toNat, by omega⟩
  have n1 : 1 ≤ n := by omega
  have n6 : n ≤ 6 := by omega
  have H0 := Lib.hid (store_awake w)
  have H1 := Lib.hid HR0
  have HN := Lib.hid (store_new n n1 (by omega))
  have en := Lib.hid hn
  clear HR0 hn
  go_enter Try.func12, Try.ntmps12
  go_wp2_with fail
  refine H0.out.mono ?_
  rintro e w1 ⟨rfl, b1⟩
  go_wp2_with fail
  refine (H1.out _).mono ?_
  rintro e w1' ⟨rfl, rfl⟩
  go_wp2_with fail
  rw [en.out]
  refine (HN.out _).mono ?_
  rintro e wL ⟨rfl, h2, b2, s2⟩
  have t1 := b1.size
  have Q0 : OwnSt wL (w1.heap.size + 1) w1.heap.size n (.slice none 0 0) (.slice none 0 0) [] [] [] [] 1 wL :=
    ⟨⟨_, _, _, _, h2, rfl, fun _ => by decide, fun _ => by decide, fun j S G h => by simp at h⟩, Near.refl _ _ _, World.ownsRow_nil _ _ _ _, World.ownsRow_nil _ _ _ _, by omega, by omega, n6⟩
  have O0 : OwnRel (w1.heap.size + 1) w1.heap.size n len wL 60 (.slice none 0 0) (.slice none 0 0) (.int .i64 0) wL := ⟨0, [], [], rfl, by omega, rfl, by omega, by simp, Q0⟩
  have hcell : ∀ (b off : Nat) (K A N : Nat → Int), b < w.heap.size → Acts w b off len K A N → ∀ wr i, Near w1.heap.size w1.heap.size wL wr → i < len → wr.cell? ⟨b, off + i * 3, none⟩ = some (.int .i64 (K i)) ∧ wr.cell? ⟨b, off + i * 3 + 1, none⟩ = some (.int .i64 (A i)) ∧ wr.cell? ⟨b, off + i * 3 + 2, none⟩ = some (.int .i64 (N i)) := fun b off K A N hbl hl wr i hn hi => by
    obtain ⟨c0, c1, c2⟩ := hl i hi
    have go : ∀ o v, w.cell? ⟨b, o, none⟩ = some v → wr.cell? ⟨b, o, none⟩ = some v := fun o v hc =>
      hn.cell1 (by omega) (by omega) ((b2.cell (p := ⟨b, o, none⟩) (by show b < w1.heap.size; omega)).trans ((b1.cell (p := ⟨b, o, none⟩) hbl).trans hc))
    exact ⟨go _ _ c0, go _ _ c1, go _ _ c2⟩
  have hend : ∀ wr, Near w1.heap.size w1.heap.size wL wr → Below w.heap.size w wr := fun wr hn =>
    (b1.trans (b2.mono t1)).trans (hn.below t1 t1 (by omega))
  have D0 := Lib.hid (And.intro hI (And.intro hcell hend))
  obtain ⟨i87, j1, j2, j3, j4⟩ := info_parts info87
  obtain ⟨i4, k1, k2, k3, k4⟩ := info_parts info4
  have I87 := Lib.hid (And.intro j1 (And.intro j2 (And.intro j3 j4)))
  have I4 := Lib.hid (And.intro k1 (And.intro k2 (And.intro k3 k4)))
  clear Q0 hcell hend h2 b2 s2 b1 hI t1 j1 j2 j3 j4 k1 k2 k3 k4
  generalize w1.heap.size + 1 = s at *
  generalize w1.heap.size = sb at *
  go_wp2_with fail
  go_loopg [8, 9, 10] 60 (fun g v8 v9 v10 wr => OwnRel s sb n len wL g v8 v9 v10 wr)
  case atStart => exact O0
  case round =>
    clear O0
    obtain ⟨i, R, D, rfl, hi60, hg, hil, hRi, hS⟩ := hrel
    have near := hS.near
    by_cases c1 : i < len
    · by_cases c2 : i < 60
      · rcases D0.out.1 with h0 | ⟨b, off, K, A, N, rfl, hlen, hb, hl⟩
        · omega
        have c2' : (i : Int) < 60 := by omega
        obtain ⟨x0, x1, x2⟩ := D0.out.2.1 b off K A N hb hl wr i near c1
        obtain ⟨R1, p0, p1, hR1⟩ := rest_store (K i) 6 (by decide) (by decide)
        have HR := Lib.hid hR1
        clear hR1 hb hl
        obtain ⟨a8, cap8, e8, h8⟩ : ∃ a8 cap8, u8 = .slice a8 R.length cap8 ∧ (0 < R.length → ∃ g, a8 = some ⟨g, 0, none⟩) := by
          obtain ⟨a, c, e⟩ := own_slice hS.r8
          refine ⟨a, c, e, fun h => ?_⟩
          obtain ⟨g, c', e'⟩ := own_some hS.r8 h
          rw [e] at e'
          injection e' with e1
          exact ⟨g, e1⟩
        obtain ⟨a9, cap9, e9, h9⟩ : ∃ a9 cap9, u9 = .slice a9 D.length cap9 ∧ (0 < D.length → ∃ g, a9 = some ⟨g, 0, none⟩) := by
          obtain ⟨a, c, e⟩ := own_slice hS.r9
          refine ⟨a, c, e, fun h => ?_⟩
          obtain ⟨g, c', e'⟩ := own_some hS.r9 h
          rw [e] at e'
          injection e' with e1
          exact ⟨g, e1⟩
        subst e8
        subst e9
        have hlD : D.length = R.length := by obtain ⟨_, _, _, _, _, hf⟩ := hS.st; exact hf.len
        have HS := Lib.hid hS
        have hG := Lib.hid hg
        have hLD := Lib.hid hlD
        have h89 := Lib.hid (And.intro h8 h9)
        have nz := hS.near.size
        clear hS near hg hlD h8 h9
        go_upto_if 44 with ((with_reducible refine (HR.out _).mono ?_); rintro e W0 ⟨rfl, rfl⟩)
        go_cut [8, 9] (fun v8 v9 wx => OwnMid s sb n wL i v8 v9 wx)
        case first =>
          by_cases q1 : R1 < 2
          · have T := Lib.hid (fun o => (HS.out.alloc o).take (by omega))
            go_wp2_with fail
            refine (T.out _).mono ?_
            rintro e w2 ⟨S, G, ok, rfl, hT⟩
            have HT := Lib.hid hT
            clear hT
            cases ok with
            | false =>
              go_wp2_with fail
              go_meet
              exact ⟨R, D, by omega, ((HT.out.1 rfl).alloc _).up (by omega)⟩
            | true =>
              have H1 := Lib.hid (HT.out.2 rfl)
              have nz2 := H1.out.near.size
              go_wp2_with (first
                | (at_builtin; refine wpList_append_own _ rfl (.tmp 54) (.tmp 56) 82 rfl wL.heap.size 87 i87 (.agg #[.int .i64 0, .int .i64 0]) 2 16 Try.underlying82 I87.out.1 I87.out.2.1 I87.out.2.2.1 I87.out.2.2.2 rfl (by decide) _ _ _ rfl ((H1.out.alloc _).alloc _).r8 ⟨w2.heap.size + 1, 0, none⟩ 1 1 [.int .i64 (S : Int), .int .i64 G] rfl rfl (two_new _ _ _ _ _ (by simp)) (by simp [Value.oneCell']) (by unfold maxLen; omega) (by omega) (by simp; omega) ?_; intro v8' w3 ho3 hg3 _; have H3 := Lib.hid (((H1.out.alloc _).alloc _).app8 ho3 hg3); clear ho3 hg3)
                | (at_builtin; refine wpList_append_own _ rfl (.tmp 58) (.tmp 59) 83 rfl wL.heap.size 4 i4 (.bool false) 1 1 Try.underlying83 I4.out.1 I4.out.2.1 I4.out.2.2.1 I4.out.2.2.2 rfl (by decide) _ _ _ rfl (H3.out.alloc _).r9 ⟨w3.heap.size, 0, none⟩ 1 1 [.bool false] rfl rfl (one_new _ _ _ _ rfl) (by simp [Value.oneCell']) (by have := hLD.out; unfold maxLen; omega) (by have := hLD.out; omega) (by have := H3.out.near.size; simp; omega) ?_; intro v9' w4 ho4 hg4 _; have H4 := Lib.hid ((H3.out.alloc _).app9 ho4 hg4); clear ho4 hg4))
              go_meet
              exact ⟨R ++ [(S, G)], D ++ [false], by simp; omega, H4.out.up (by omega)⟩
          · by_cases q2 : R.length = 0
            · have q2' : ¬ 0 < R.length := by omega
              clear q2
              go_wp2_with fail
              go_meet
              exact ⟨R, D, by omega, (HS.out.alloc _).up (by omega)⟩
            · have q2' : 0 < R.length := by omega
              obtain ⟨RA, m0, m1, hRA⟩ := rest_store (A i) (R.length : Int) (by omega) (by omega)
              obtain ⟨j, rfl⟩ : ∃ j : Nat, RA = (j : Int) := ⟨RA.toNat, by omega⟩
              have hj : j < R.length := by omega
              obtain ⟨⟨S, G⟩, hjS⟩ : ∃ x, R[j]? = some x := ⟨_, List.getElem?_eq_getElem hj⟩
              obtain ⟨g8, rfl⟩ := h89.out.1 (by omega)
              obtain ⟨g9, rfl⟩ := h89.out.2 (by have := hLD.out; omega)
              have HA := Lib.hid hRA
              clear hRA
              have y8 : ∀ o, (wr.alloc o).cell? ⟨g8, j * 2, none⟩ = some (.int .i64 (S : Int)) ∧ (wr.alloc o).cell? ⟨g8, j * 2 + 1, none⟩ = some (.int .i64 G) := fun o => refs_at (HS.out.alloc o).r8 hjS
              by_cases q4 : R1 = 4
              · obtain ⟨d, hd⟩ : ∃ d, D[j]? = some d := ⟨_, List.getElem?_eq_getElem (by have := hLD.out; omega)⟩
                have hgd : D.getD j false = d := by simp [List.getD_eq_getElem?_getD, hd]
                have F := Lib.hid (fun o => (HS.out.alloc o).free_any hjS (by omega))
                obtain ⟨y80, y81⟩ := y8 (.cells #[.int .i64 (K i), .int .i64 (A i), .int .i64 (N i)] 85)
                have HY := Lib.hid (And.intro hjS (And.intro hd hgd))
                have q4b : (R1 == 4) = true := by simpa using q4
                clear hjS hd hgd y8 q4
                go_wp2_with ((with_reducible refine (HA.out _).mono ?_); rintro e W0 ⟨rfl, rfl⟩)
                refine (F.out _).mono ?_
                rintro e w3 ⟨ok, rfl, hF⟩
                obtain ⟨hjS, hd, hgd⟩ := HY.out
                unfold FreeP at hF
                rw [hgd] at hF
                have z9 : w3.cell? ⟨g9, j, none⟩ = some (.bool d) := gone_at hF.r9 hd
                have f9 : w3.frozen? ⟨g9, j, none⟩ = false := hF.r9.frozenAt j
                have jl : j < D.length := by have := hLD.out; omega
                have HF := Lib.hid hF
                clear hF hjS hd hgd
                cases d <;> cases ok
                all_goals
                  go_wp2_with fail
                  go_meet
                  exact ⟨R, D.set j _, by omega, (HF.out.store9 j _).up (by omega)⟩
              · obtain ⟨R4, e0, e1, hR4⟩ := rest_store (N i) 4 (by decide) (by decide)
                have HB := Lib.hid hR4
                have F := ((HS.out.alloc (.cells #[.int .i64 (K i), .int .i64 (A i), .int .i64 (N i)] 85)).drewN 1).add hjS (by omega) (R4 - 2) (by omega) (by omega)
                obtain ⟨y80, y81⟩ := y8 (.cells #[.int .i64 (K i), .int .i64 (A i), .int .i64 (N i)] 85)
                have FY := Lib.hid (And.intro F (And.intro y80 y81))
                clear F y80 y81
                have q4b : (R1 == 4) = false := by simpa using q4
                clear hR4 hjS y8 q4
                go_wp2_with ((with_reducible refine (HA.out _).mono ?_); rintro e W0 ⟨rfl, rfl⟩)
                refine wp_tail_any 9 (by kernel_rfl) (by kernel_rfl) ?_
                intro W hW
                have F : Calls Try.prog 42 #[.pointer (some ⟨s, 0, none⟩), .agg #[.int .i64 (S : Int), .int .i64 G], .int .i64 (R4 - 2)] W (fun e w' => (∃ x b, e = .returned (.tuple #[.int .i64 x, .bool b])) ∧ OwnSt wL s sb n (.slice (some ⟨g8, 0, none⟩) R.length cap8) (.slice (some ⟨g9, 0, none⟩) D.length cap9) R D R D ((i : Int) + 1 + 1) w') := by rw [hW]; exact FY.out.1
                have y80 : W.cell? ⟨g8, j * 2, none⟩ = some (.int .i64 (S : Int)) := by rw [hW]; exact FY.out.2.1
                have y81 : W.cell? ⟨g8, j * 2 + 1, none⟩ = some (.int .i64 G) := by rw [hW]; exact FY.out.2.2
                have y11 : W.cell? ⟨wr.heap.size, 2, none⟩ = some (.int .i64 (N i)) := by rw [hW]; exact World.cell?_alloc_new wr #[.int .i64 (K i), .int .i64 (A i), .int .i64 (N i)] 85 2
                have w4 := Lib.hid (show IntKind.i64.wrap (R4 - 2) = R4 - 2 from IntWalk.i64_in _ (by omega))
                have F2 := Lib.hid F
                clear F FY hW
                simp only [List.take_succ_cons, List.take_zero, List.drop_succ_cons, List.drop_zero]
                repeat still_step
                still_call ((HB.out _).mono fun e w' ⟨a, b⟩ => ⟨a, b.symm⟩)
                repeat still_step
                refine wpStill_nil ?_
                rw [w4.out]
                go_wp2_with fail
                refine F2.out.mono ?_
                rintro e w3 ⟨⟨x, bb, rfl⟩, h3⟩
                have H3 := Lib.hid h3
                clear h3
                go_wp2_with fail
                go_meet
                exact ⟨R, D, by omega, H3.out.up (by omega)⟩
        case rest =>
          obtain ⟨R', D', hR', hS'⟩ := hcut
          obtain ⟨a8', cap8', e8', h8'⟩ : ∃ a8 cap8, u8 = .slice a8 R'.length cap8 ∧ (0 < R'.length → ∃ g, a8 = some ⟨g, 0, none⟩) := by
            obtain ⟨a, c, e⟩ := own_slice hS'.r8
            refine ⟨a, c, e, fun h => ?_⟩
            obtain ⟨g, c', e'⟩ := own_some hS'.r8 h
            rw [e] at e'
            injection e' with e1
            exact ⟨g, e1⟩
          obtain ⟨a9', cap9', e9', h9'⟩ : ∃ a9 cap9, u9 = .slice a9 D'.length cap9 ∧ (0 < D'.length → ∃ g, a9 = some ⟨g, 0, none⟩) := by
            obtain ⟨a, c, e⟩ := own_slice hS'.r9
            refine ⟨a, c, e, fun h => ?_⟩
            obtain ⟨g, c', e'⟩ := own_some hS'.r9 h
            rw [e] at e'
            injection e' with e1
            exact ⟨g, e1⟩
          subst e8'
          subst e9'
          have hlD' : D'.length = R'.length := by obtain ⟨_, _, _, _, _, hf⟩ := hS'.st; exact hf.len
          have I0 : OwnIn s sb n wL (.slice a8' R'.length cap8') (.slice a9' D'.length cap9') R' D' ((i : Int) + 2) R'.length (.int .i64 0) wc := ⟨0, rfl, rfl, Nat.zero_le _, hS'⟩
          have HL := Lib.hid (And.intro hlD' (And.intro h8' h9'))
          have Rb : R'.length ≤ 61 := by omega
          clear hS' hlD' h8' h9'
          go_wp2_with fail
          go_loopg [17] R'.length (fun g v17 wr => OwnIn s sb n wL (.slice a8' R'.length cap8') (.slice a9' D'.length cap9') R' D' ((i : Int) + 2) g v17 wr)
          case atStart => exact I0
          case round =>
            clear I0
            obtain ⟨j, rfl, hgj, hjl, hT⟩ := hrel
            by_cases hj : j < R'.length
            · obtain ⟨g8, rfl⟩ := HL.out.2.1 (by omega)
              obtain ⟨g9, rfl⟩ := HL.out.2.2 (by have := HL.out.1; omega)
              obtain ⟨⟨S, G⟩, hjS⟩ : ∃ x, R'[j]? = some x := ⟨_, List.getElem?_eq_getElem hj⟩
              obtain ⟨d, hd⟩ : ∃ d, D'[j]? = some d := ⟨_, List.getElem?_eq_getElem (by have := HL.out.1; omega)⟩
              obtain ⟨y80, y81⟩ := refs_at hT.r8 hjS
              have jl : j < D'.length := by have := HL.out.1; omega
              have HT := Lib.hid (And.intro hT (And.intro hjS hd))
              have HJ := Lib.hid hgj
              cases d with
              | false =>
                have F := Lib.hid (hT.get_live hjS hd)
                clear hT hjS hd hgj
                go_wp2_with fail
                refine F.out.mono ?_
                rintro e w5 ⟨⟨x0, x2, x3, x4, x5, rfl⟩, h5⟩
                have H5 := Lib.hid (h5.alloc (.cells #[.int .i64 x0, .int .i64 (j : Int), .int .i64 x2, .int .i64 x3, .int .i64 x4, .int .i64 x5] 51))
                have z9 := gone_at H5.out.r9 HT.out.2.2
                clear h5
                go_wp2_with fail
                go_roundg (R'.length - (j + 1))
                case measure => have := HJ.out; omega
                case rel => exact ⟨j + 1, by go_num, rfl, by omega, H5.out⟩
              | true =>
                have F := Lib.hid (hT.no hjS hd).1
                clear hT hjS hd hgj
                go_wp2_with fail
                refine F.out.mono ?_
                rintro e w5 ⟨rfl, h5⟩
                have h5a := h5.alloc (.cells #[.int .i64 0, .int .i64 0, .int .i64 0, .int .i64 0, .int .i64 0, .int .i64 0] 51)
                have C5 := Lib.hid (h5a.no HT.out.2.1 HT.out.2.2).2.1
                have z9 := gone_at h5a.r9 HT.out.2.2
                obtain ⟨z80, z81⟩ := refs_at h5a.r8 HT.out.2.1
                clear h5 h5a
                go_wp2_with fail
                refine C5.out.mono ?_
                rintro e w6 ⟨rfl, h6⟩
                have C6 := Lib.hid (h6.no HT.out.2.1 HT.out.2.2).2.2.1
                obtain ⟨v80, v81⟩ := refs_at h6.r8 HT.out.2.1
                clear h6
                go_wp2_with fail
                refine C6.out.mono ?_
                rintro e w7 ⟨rfl, h7⟩
                have H7 := Lib.hid h7
                clear h7
                go_wp2_with fail
                go_roundg (R'.length - (j + 1))
                case measure => have := HJ.out; omega
                case rel => exact ⟨j + 1, by go_num, rfl, by omega, H7.out⟩
            · have HT := Lib.hid hT
              clear hT hgj
              go_wp2_with fail
              go_roundg (60 - (i + 1))
              case measure => have := hG.out; omega
              case rel => exact ⟨i + 1, R', D', by go_num, by omega, rfl, by omega, by omega, by simpa [Int.add_assoc] using HT.out⟩
      · have c2' : ¬ (i : Int) < 60 := by omega
        clear hS
        go_wp2
        go_ret
        exact ⟨rfl, D0.out.2.2 _ near⟩
    · clear hS
      go_wp2
      go_ret
      exact ⟨rfl, D0.out.2.2 _ near⟩
end Go.Proofs.Ytjfbjkgppnhaoaa
