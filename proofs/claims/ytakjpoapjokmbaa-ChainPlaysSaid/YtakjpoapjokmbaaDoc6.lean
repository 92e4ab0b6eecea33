/-
  The chain of the document's own answer, in memory: its Drop.
-/
import Derived.Test.YtakjpoapjokmbaaDoc3
import Derived.Test.YtakjpoapjokmbaaDrop
namespace Go.Proofs.Ytakjpoapjokmbaa
open Go.ChangeShapes Go.WideShapes Go.ChangeAt Go.RowKit
set_option linter.unusedVariables false

theorem ncells_gone : ∀ (l : List No) (k : Nat) (q : No), l[k]? = some q → (ncells l).set (k * 7 + 6) (.bool true) = ncells (l.set k { q with gone := true })
  | [], k, q, h => by simp at h
  | r :: l, 0, q, h => by
    simp at h
    subst h
    rfl
  | r :: l, k + 1, q, h => by
    have h' : l[k]? = some q := by simpa using h
    show (ncell r ++ ncells l).set ((k + 1) * 7 + 6) _ = ncell r ++ ncells (l.set k _)
    rw [List.set_append_right _ _ (by show 7 ≤ _; omega), ← ncells_gone l k q h']
    congr 2
    show (k + 1) * 7 + 6 - 7 = _
    omega
theorem RefC.goneRow {w : World} {base rc g n cap : Nat} {l : List No} (h : RefC w base rc (.slice (some ⟨g, 0, none⟩) n cap) l) {k : Nat} {q : No} (hq : l[k]? = some q) :
    RefC (w.setCell ⟨g, k * 7 + 6, none⟩ (.bool true)) base rc (.slice (some ⟨g, 0, none⟩) n cap) (l.set k { q with gone := true }) ∧ w.frozen? ⟨g, k * 7 + 6, none⟩ = false ∧ base ≤ g := by
  rcases h.row.2 with ⟨e, _⟩ | ⟨g', cap', cur, e, hbg, hgg, hnc, hcm, hcs, htk⟩
  · cases e
  · injection e with e1 e2 e3
    injection e1 with e1
    injection e1 with e1
    subst e1
    subst e3
    have hlt := h.lt
    have hne : rc ≠ g := by omega
    refine ⟨⟨?_, by rw [World.frozen?_setCell]; exact h.f0, ?_, h.lt, by rw [List.length_set]; exact h.few⟩, ?_, hbg⟩
    · exact (World.cell?_setCell_other _ _ _ _ (fun e => hne (by injection e with e; exact e.symm))).trans h.c0
    · rw [List.length_set]
      refine ⟨by rw [ncells_len, List.length_set], .inr ⟨g, cap, _, by rw [e2], hbg, Go.heap_setCell_same w g _ cur 41 _ hgg, hnc, hcm, ?_, ?_⟩⟩
      · simpa using hcs
      · rw [← ncells_gone l k q hq, ← htk]
        simp [List.take_set]
    · unfold World.frozen?
      rw [hgg]
      simp
def ddropL : Nat → List No → Int → List No × List (Int × Int)
  | 0, L, _ => (L, [])
  | f + 1, L, i =>
    if i < 0 then (L, []) else
      match L[i.toNat]? with
      | none => (L, [])
      | some q => if 0 < q.kept + ((kidsL i L : Nat) : Int) then (L, []) else ((ddropL f (L.set i.toNat { q with gone := true }) q.prev).1, (q.slot, q.gen) :: (ddropL f (L.set i.toNat { q with gone := true }) q.prev).2)
def DDropOk : Nat → List No → Int → Prop
  | 0, _, i => i < 0
  | f + 1, L, i => i < 0 ∨ ∃ (k : Nat) (q : No), i = (k : Int) ∧ L[k]? = some q ∧ q.gone = false ∧ -100000 ≤ q.kept ∧ q.kept ≤ 100000 ∧ (0 < q.kept + ((kidsL i L : Nat) : Int) ∨ DDropOk f (L.set k { q with gone := true }) q.prev)
theorem ddropL_end (f : Nat) (L : List No) {i : Int} (h : i < 0) : ddropL f L i = (L, []) := by
  cases f
  · rfl
  · rw [ddropL, if_pos h]
theorem ddropL_stop {f : Nat} {L : List No} {k : Nat} {q : No} (hq : L[k]? = some q) (hc : 0 < q.kept + ((kidsL (k : Int) L : Nat) : Int)) : ddropL (f + 1) L (k : Int) = (L, []) := by
  rw [ddropL, if_neg (by omega), Int.toNat_natCast, hq]
  simp [hc]
theorem ddropL_more {f : Nat} {L : List No} {k : Nat} {q : No} (hq : L[k]? = some q) (hc : ¬ 0 < q.kept + ((kidsL (k : Int) L : Nat) : Int)) : ddropL (f + 1) L (k : Int) = ((ddropL f (L.set k { q with gone := true }) q.prev).1, (q.slot, q.gen) :: (ddropL f (L.set k { q with gone := true }) q.prev).2) := by
  rw [ddropL, if_neg (by omega), Int.toNat_natCast, hq]
  simp only [if_neg hc]
/-- After its Kept was counted down: the nodes that go. -/
def ERel (w : World) (base rc : Nat) (v : Value) (f : Nat) (L : List No) (i0 : Int) (gb : Nat) (gh : Nat) (v1 v7 : Value) (wr : World) : Prop :=
  ∃ (f' : Nat) (L' : List No) (i' : Int) (l : List (Int × Int)), v1 = .int .i64 i' ∧ gh = f' ∧ wr.ownsRow w.heap.size 39 2 v7 l.length (rcells l) ∧ RefC wr base rc v L' ∧ DDropOk f' L' i' ∧
    ddropL f L i0 = ((ddropL f' L' i').1, l ++ (ddropL f' L' i').2) ∧ l.length + f' ≤ f ∧ But gb w wr
def EPost (w : World) (base rc : Nat) (v : Value) (f : Nat) (L : List No) (i : Int) (gb : Nat) (e : Ending) (w' : World) : Prop :=
  ∃ v', e = .returned (.tuple #[v', .bool true]) ∧ w'.ownsRow w.heap.size 39 2 v' (ddropL f L i).2.length (rcells (ddropL f L i).2) ∧ RefC w' base rc v (ddropL f L i).1 ∧ But gb w w'
set_option maxRecDepth 100000 in
set_option maxHeartbeats 4000000 in
theorem ddrop_at {w : World} {base rc gb n cap f : Nat} {L : List No} (h : RefC w base rc (.slice (some ⟨gb, 0, none⟩) n cap) L) {k : Nat} {q : No} (hq : L[k]? = some q) (hg : q.gone = false) (hk : -99999 ≤ q.kept ∧ q.kept ≤ 100000)
    (hok : DDropOk f (L.set k { q with kept := q.kept - 1 }) (k : Int)) (hf : f ≤ 100) :
    Calls Try.prog 24 #[.pointer (some ⟨rc, 0, none⟩), .int .i64 (k : Int)] w (EPost w base rc (.slice (some ⟨gb, 0, none⟩) n cap) f (L.set k { q with kept := q.kept - 1 }) (k : Int) gb) := by
  have I := is_at h (k : Int)
  rw [isL_at hq, hg] at I
  have I := Lib.hid I
  have c0 := h.c0
  obtain ⟨g', e, hnl, hcc⟩ := h.at hq
  injection e with e
  injection e with e
  subst e
  have c5 : w.cell? ⟨gb, k * 7 + 5, none⟩ = some (.int .i64 q.kept) := hcc 5 (by decide)
  have hkl : k < n := by have := (List.getElem?_eq_some_iff.1 hq).1; omega
  have hkn : (k : Int) < (n : Int) := by omega
  have ew : wrap64 (q.kept - 1) = q.kept - 1 := by unfold wrap64; omega
  have ew2 : IntKind.i64.wrap (q.kept - 1) = q.kept - 1 := IntWalk.i64_in _ (by omega)
  obtain ⟨hR, hfz, hbg⟩ := h.keepRow hq (q.kept - 1)
  have hgw : gb < w.heap.size := block_lt_of_cell c5
  have hlt := h.lt
  have b1 : But gb w (w.setCell ⟨gb, k * 7 + 5, none⟩ (.int .i64 (q.kept - 1))) := ⟨rfl, rfl, rfl, by simp [World.setCell], fun x hx hn => Below.heap_setCell _ _ _ _ hn⟩
  have R0 : ERel w base rc (.slice (some ⟨gb, 0, none⟩) n cap) f (L.set k { q with kept := q.kept - 1 }) (k : Int) gb f (.int .i64 (k : Int)) (.slice none 0 0) (w.setCell ⟨gb, k * 7 + 5, none⟩ (.int .i64 (q.kept - 1))) :=
    ⟨f, _, _, [], rfl, rfl, World.ownsRow_nil _ _ _ _, hR, hok, by simp, by simp, b1⟩
  clear hR hok b1 h hq hg hcc hk hnl
  generalize L.set k { q with kept := q.kept - 1 } = M at *
  generalize q.kept = kp at *
  go_enter Try.func24, Try.ntmps24
  go_wp2_with fail
  refine I.out.mono ?_
  rintro e w1 ⟨rfl, rfl⟩
  go_wp2_with fail
  go_loopg [1, 7] f (fun gh v1 v7 wr => ERel w base rc (.slice (some ⟨gb, 0, none⟩) n cap) f M (k : Int) gb gh v1 v7 wr)
  case atStart => exact R0
  case round =>
    clear R0
    obtain ⟨f', L', i', l, rfl, hg, hrow, hR, hok, hd, hlf, hbt⟩ := hrel
    by_cases hie : i' < 0
    · rw [ddropL_end _ _ hie] at hd
      have t1 : decide (0 ≤ i') = false := by simpa using hie
      have FIN := Lib.hid (And.intro hrow (And.intro hR (And.intro hd hbt)))
      clear hrow hR hd hok hbt
      go_wp2_with fail
      go_ret2
      obtain ⟨a1, a2, a3, a5⟩ := FIN.out
      unfold EPost
      rw [a3]
      simp only [List.append_nil]
      exact ⟨_, rfl, a1, a2, a5⟩
    · cases f' with
      | zero => exact absurd hok hie
      | succ m =>
        obtain ⟨kk, q, rfl, hq, hgo, hk1, hk2, hor⟩ := hok.resolve_left hie
        have CT := Lib.hid (dcount_yes hR hq hgo ⟨hk1, hk2⟩)
        have t1 : decide (0 ≤ (kk : Int)) = true := by simp
        obtain ⟨va, vc, rfl, _⟩ := rrow_slice hrow
        by_cases hgt : 0 < q.kept + ((kidsL (kk : Int) L' : Nat) : Int)
        · rw [ddropL_stop hq hgt, List.append_nil] at hd
          have t2 : decide (q.kept + ((kidsL (kk : Int) L' : Nat) : Int) ≤ 0) = false := by simp; omega
          have FIN := Lib.hid (And.intro hrow (And.intro hR (And.intro hd hbt)))
          clear hrow hR hd hok hbt hq hor hgt
          generalize q.kept + ((kidsL (kk : Int) L' : Nat) : Int) = cn at *
          go_wp2_with fail
          refine CT.out.mono ?_
          rintro e w3 ⟨rfl, rfl⟩
          go_wp2_with fail
          go_ret2
          obtain ⟨a1, a2, a3, a5⟩ := FIN.out
          unfold EPost
          rw [a3]
          exact ⟨_, rfl, a1, a2, a5⟩
        · rw [ddropL_more hq hgt] at hd
          obtain ⟨g', e, hnl, hcc⟩ := hR.at hq
          injection e with e
          injection e with e
          subst e
          have hdo := hor.resolve_left hgt
          have t2 : decide (q.kept + ((kidsL (kk : Int) L' : Nat) : Int) ≤ 0) = true := by simp; omega
          obtain ⟨hR2, hfz2, _⟩ := hR.goneRow hq
          have c0 := hR.c0
          have hkl : kk < n := by have := (List.getElem?_eq_some_iff.1 hq).1; omega
          have hkn : (kk : Int) < (n : Int) := by omega
          have c6 : wr.cell? ⟨gb, kk * 7 + 6, none⟩ = some (.bool q.gone) := hcc 6 (by decide)
          have c3 : wr.cell? ⟨gb, kk * 7 + 3, none⟩ = some (.int .i64 q.slot) := hcc 3 (by decide)
          have c4 : wr.cell? ⟨gb, kk * 7 + 4, none⟩ = some (.int .i64 q.gen) := hcc 4 (by decide)
          have cp : wr.cell? ⟨gb, kk * 7, none⟩ = some (.int .i64 q.prev) := hcc 0 (by decide)
          have offs : ∀ j, j ≠ kk * 7 + 6 → (wr.setCell ⟨gb, kk * 7 + 6, none⟩ (.bool true)).cell? ⟨gb, j, none⟩ = wr.cell? ⟨gb, j, none⟩ := fun j hj => World.cell?_setCell_other _ _ _ _ (fun e => by injection e with _ e; omega)
          have d3 := (offs (kk * 7 + 3) (by omega)).trans c3
          have d4 := (offs (kk * 7 + 4) (by omega)).trans c4
          have dp := (offs (kk * 7) (by omega)).trans cp
          have d0 := hR2.c0
          have b2 : But gb wr (wr.setCell ⟨gb, kk * 7 + 6, none⟩ (.bool true)) := ⟨rfl, rfl, rfl, by simp [World.setCell], fun x hx hn => Below.heap_setCell _ _ _ _ hn⟩
          have row2 := rrow_keep (e := 39) hrow (fun x hx => b2.block x (rrow_lt hrow hx).2 (by have := (rrow_lt hrow hx).1; omega))
          have s2 := hbt.size
          have s3 : (wr.setCell ⟨gb, kk * 7 + 6, none⟩ (.bool true)).heap.size = wr.heap.size := by simp [World.setCell]
          have y0 := World.cell?_alloc_new (wr.setCell ⟨gb, kk * 7 + 6, none⟩ (.bool true)) #[.int .i64 q.slot, .int .i64 q.gen] 39 0
          have y1 := World.cell?_alloc_new (wr.setCell ⟨gb, kk * 7 + 6, none⟩ (.bool true)) #[.int .i64 q.slot, .int .i64 q.gen] 39 1
          simp only [List.getElem?_toArray, List.getElem?_cons_zero, List.getElem?_cons_succ] at y0 y1
          obtain ⟨v4, W4, happ, row4, hg4⟩ := ref_app (row2.alloc (.cells #[.int .i64 q.slot, .int .i64 q.gen] 39)) q.slot q.gen (wr.setCell ⟨gb, kk * 7 + 6, none⟩ (.bool true)).heap.size y0 y1 (by omega) (by rw [World.size_alloc, s3]; omega)
          obtain ⟨v5, vc5, rfl, _⟩ := rrow_slice row4
          have rlt := fun x hx => (rrow_lt hrow (k := x) hx)
          have far : ∀ x, x < w.heap.size → W4.heap[x]? = (wr.setCell ⟨gb, kk * 7 + 6, none⟩ (.bool true)).heap[x]? := fun x hx => (hg4.block x (by rw [World.size_alloc, s3]; omega) (fun e => by obtain ⟨e1, _⟩ := rlt x e.symm; omega)).trans (Below.heap_alloc _ _ _ (by rw [s3]; omega))
          have farR : ∀ x, (Value.slice (some ⟨gb, 0, none⟩) n cap).ownBlock = some x → W4.heap[x]? = (wr.setCell ⟨gb, kk * 7 + 6, none⟩ (.bool true)).heap[x]? := fun x hx => by
            have e : gb = x := by simpa [Value.ownBlock] using hx
            subst e
            exact far gb hgw
          have hrcw : rc < w.heap.size := by omega
          have hR4 : RefC W4 base rc (.slice (some ⟨gb, 0, none⟩) n cap) (L'.set kk { q with gone := true }) :=
            ⟨(World.cell?_of_block (w := (wr.setCell ⟨gb, kk * 7 + 6, none⟩ (.bool true))) (a := ⟨rc, 0, none⟩) (far rc hrcw)).trans hR2.c0, (World.frozen?_of_block (w := (wr.setCell ⟨gb, kk * 7 + 6, none⟩ (.bool true))) (a := ⟨rc, 0, none⟩) (far rc hrcw)).trans hR2.f0, rrow_keep (e := 41) hR2.row farR, hR2.lt, hR2.few⟩
          have r0 := hR4.c0
          have rp := (World.cell?_of_block (w := (wr.setCell ⟨gb, kk * 7 + 6, none⟩ (.bool true))) (a := ⟨gb, kk * 7, none⟩) (far gb hgw)).trans dp
          have bt4 : But gb w W4 := ⟨hg4.os.trans (b2.os.trans hbt.os), hg4.tape.trans (b2.tape.trans hbt.tape), hg4.output.trans (b2.output.trans hbt.output), by have := hg4.size; rw [World.size_alloc, s3] at this; omega, fun x hx hn => (far x hx).trans ((b2.block x (by omega) hn).trans (hbt.block x hx hn))⟩
          rw [s3] at happ
          have HA := Lib.hid happ
          have R := Lib.hid (And.intro row4 (And.intro hR4 (And.intro hdo (And.intro hd bt4))))
          clear hrow hR hok hbt hq hor hgt hcc hR2 offs b2 row2 hg4 rlt far farR hR4 bt4 happ row4 hdo hd hnl c3 c4 cp
          generalize q.kept + ((kidsL (kk : Int) L' : Nat) : Int) = cn at *
          go_wp2_with fail
          refine CT.out.mono ?_
          rintro e w3 ⟨rfl, rfl⟩
          go_wp2_with (at_builtin; refine wpList_append_runC rfl _ _ _ rfl rfl rfl HA.out ?_)
          go_roundg m
          case measure => omega
          case rel =>
            obtain ⟨a1, a2, a3, a4, a5⟩ := R.out
            refine ⟨m, L'.set kk { q with gone := true }, q.prev, l ++ [(q.slot, q.gen)], rfl, rfl, by simp only [List.length_append, List.length_cons, List.length_nil, Nat.zero_add] at a1 ⊢; exact a1, a2, a3, ?_, by rw [List.length_append]; simp; omega, a5⟩
            rw [a4, List.append_assoc]
            rfl
end Go.Proofs.Ytakjpoapjokmbaa
