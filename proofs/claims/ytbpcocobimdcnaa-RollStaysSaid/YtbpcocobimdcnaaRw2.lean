/-
  The document's Add, of layer 15: a contract for the walks.
-/
import Derived.Test.YtbpcocobimdcnaaRu
namespace Go.Proofs.Ytbpcocobimdcnaa
open Go.ChangeShapes Go.WideShapes Go.ChangeAt Go.RowKit
set_option linter.unusedVariables false

/-- A row of no things, and behind it all of another one. -/
theorem copy_run {W : World} {v : Value} {l : List EV} {b : Nat} (h : ERow W v l) (ht : TabsAt W l) (hb : b = W.heap.size) :
    ∃ a c w', (Builtin.append_ #[25, 25] 25 #[.slice (some ⟨b, 0, none⟩) 0 0, v]).run Try.prog (W.alloc (.cells #[] 48)) = .ok (.slice a l.length c) w' ∧ w'.ownsRow W.heap.size 48 5 (.slice a l.length c) l.length (ecells l) ∧ Turn (fun _ => False) W w' := by
  subst hb
  obtain ⟨i3, j1, j2, j3, j4⟩ := info_parts info48
  have T1 : Turn (fun _ => False) W (W.alloc (.cells #[] 48)) := (Turn.refl _ W).alloc _
  have h1 := own_turn h.own T1 (fun _ _ f => f)
  have hn := h.lt
  have m : (W.alloc (.cells #[] 48)).ownsRow W.heap.size 48 5 (.slice (some ⟨W.heap.size, 0, none⟩) 0 0) 0 [] := World.ownsRow_made W #[] 0 (Nat.le_refl _) (by unfold maxLen; omega) rfl
  rcases h1.2 with ⟨rfl, e0⟩ | ⟨g, cap, cur, rfl, _⟩
  · have hl0 : l = [] := List.eq_nil_of_length_eq_zero e0
    subst hl0
    exact ⟨_, _, _, run_append_owned_none _ W.heap.size 25 25 48 i3 5 Try.underlying25 j1 _ 0 [] m, by simpa [ecells] using m, T1⟩
  · obtain ⟨v', w', hrun, hown, hg, _⟩ := run_append_own (W.alloc (.cells #[] 48)) W.heap.size 25 25 48 i3 _ 5 56 Try.underlying25 j1 j2 j3 j4 rfl (by decide) _ 0 [] m ⟨g, 0, none⟩ l.length cap (ecells l) h1.1 (h1.cells rfl) (ecells_one ht) (by unfold maxLen; omega) (by omega) (by simp)
    rw [Nat.zero_add, List.nil_append] at hown
    obtain ⟨a, c, rfl, _⟩ := own_slice hown
    refine ⟨a, c, w', hrun, hown, turn_fresh T1 m ((Turn.refl _ _).grown hg fun k hk => .inl hk)⟩
theorem radd_mem {w : World} {v : Value} {l : List EV} {a0 : Option Addr} {n0 c0 : Nat} {o : Option Int} {x win : Int} (h : ERow w v l) (ht : TabsAt w l) (hm : l.length ≤ 200) (hp : PlainTab 0 w (.slice a0 n0 c0) o) :
    ∃ a c w4, (Builtin.append_ #[25, 25] 25 #[.slice (some ⟨w.heap.size + 1 + 1, 0, none⟩) 0 0, v]).run Try.prog (((w.alloc (.cells #[.slice a0 n0 c0, .int .i64 win, .bool false] 38)).alloc (.cells #[.slice none 0 0, .bool false] 33)).alloc (.cells #[] 48)) = .ok (.slice a l.length c) w4 ∧
      (w4.cell? ⟨w.heap.size, 0, none⟩ = some (.slice a0 n0 c0) ∧ w4.cell? ⟨w.heap.size, 1, none⟩ = some (.int .i64 win) ∧ w4.cell? ⟨w.heap.size, 2, none⟩ = some (.bool false)) ∧
      ∃ a2 c2 w6, (Builtin.append_ #[25, 25] 25 #[.slice a l.length c, .slice (some ⟨w4.heap.size, 0, none⟩) 1 1]).run Try.prog (w4.alloc (.cells #[.int .i64 x, .int .i64 (-1), .slice a0 n0 c0, .int .i64 win, .bool false] 48)) = .ok (.slice a2 (l.length + 1) c2) w6 ∧
        (w6.cell? ⟨w.heap.size + 1, 0, none⟩ = some (.slice none 0 0) ∧ w6.cell? ⟨w.heap.size + 1, 1, none⟩ = some (.bool false) ∧ w6.frozen? ⟨w.heap.size + 1, 0, none⟩ = false ∧ w6.frozen? ⟨w.heap.size + 1, 1, none⟩ = false) ∧
        ∀ W', Turn (fun b => b = w.heap.size + 1) w6 W' → ERow W' (.slice a2 (l.length + 1) c2) (l ++ [⟨x, -1, .slice a0 n0 c0, win, o⟩]) ∧ Turn (fun _ => False) w W' := by
  have T1 : Turn (fun _ => False) w (w.alloc (.cells #[.slice a0 n0 c0, .int .i64 win, .bool false] 38)) := (Turn.refl _ w).alloc _
  have z1 : (w.alloc (.cells #[.slice a0 n0 c0, .int .i64 win, .bool false] 38)).heap.size = w.heap.size + 1 := by simp
  have p0 := World.cell?_alloc_new w #[.slice a0 n0 c0, .int .i64 win, .bool false] 38
  generalize w.alloc (.cells #[.slice a0 n0 c0, .int .i64 win, .bool false] 38) = w1 at *
  have T2 : Turn (fun _ => False) w1 (w1.alloc (.cells #[.slice none 0 0, .bool false] 33)) := (Turn.refl _ w1).alloc _
  have z2 : (w1.alloc (.cells #[.slice none 0 0, .bool false] 33)).heap.size = w.heap.size + 2 := by simp [z1]
  have q0 := World.cell?_alloc_new w1 #[.slice none 0 0, .bool false] 33
  have f0 : ∀ j, (w1.alloc (.cells #[.slice none 0 0, .bool false] 33)).frozen? ⟨w1.heap.size, j, none⟩ = false := fun j => by rw [frozen?_alloc_cells]; exact fz _ (Nat.le_refl _)
  rw [z1] at q0 f0
  generalize w1.alloc (.cells #[.slice none 0 0, .bool false] 33) = w2 at *
  have T12 := T1.trans T2
  have h2 := h.turn T12
  obtain ⟨a, c, w4, hrun, hown, T4⟩ := copy_run h2 (ht.turn T12) (show w.heap.size + 1 + 1 = w2.heap.size by omega)
  rw [z2] at hown
  have hs4 := T4.size
  have T5 : Turn (fun _ => False) w4 (w4.alloc (.cells #[.int .i64 x, .int .i64 (-1), .slice a0 n0 c0, .int .i64 win, .bool false] 48)) := (Turn.refl _ w4).alloc _
  obtain ⟨v6, w6, hrun6, hown6, T6⟩ := out_app (e := ⟨x, -1, .slice a0 n0 c0, win, o⟩) (t := w4.heap.size) (own_turn hown T5 (fun _ _ f => f)) (by simp; omega) (by omega) rfl (fun j u hu => (World.cell?_alloc_new w4 _ 48 j).trans (by simpa [EV.cells] using hu))
  obtain ⟨a2, c2, rfl, _⟩ := own_slice hown6
  have k1 : ∀ {k j u}, w1.cell? ⟨k, j, none⟩ = some u → k < w.heap.size + 2 → w4.cell? ⟨k, j, none⟩ = some u := fun hc hk => T4.cell (fun f => f) (T2.cell (fun f => f) hc)
  have hob : ∀ k, (Value.slice a l.length c).ownBlock = some k → w.heap.size + 2 ≤ k := fun k hk => (hown.lt k hk).1
  have T46 := (T5.more (S' := fun k => w.heap.size + 2 ≤ k) (fun _ _ f => f.elim)).comp T6 (fun i hi hk => hob i hk)
  refine ⟨a, c, w4, hrun, ⟨k1 (p0 0) (by omega), k1 (p0 1) (by omega), k1 (p0 2) (by omega)⟩, a2, c2, w6, hrun6, ⟨?_, ?_, ?_, ?_⟩, fun W' t => ?_⟩
  · exact T46.cell (by omega) (T4.cell (fun f => f) (q0 0))
  · exact T46.cell (by omega) (T4.cell (fun f => f) (q0 1))
  · exact (World.frozen?_of_block (w := w2) (w' := w6) (a := ⟨w.heap.size + 1, 0, none⟩) ((T46.block (w.heap.size + 1) (by omega) (by omega)).trans (T4.block (w.heap.size + 1) (by omega) (fun f => f)))).trans (f0 0)
  · exact (World.frozen?_of_block (w := w2) (w' := w6) (a := ⟨w.heap.size + 1, 1, none⟩) ((T46.block (w.heap.size + 1) (by omega) (by omega)).trans (T4.block (w.heap.size + 1) (by omega) (fun f => f)))).trans (f0 1)
  · have hT : Turn (fun _ => False) w w6 := (T12.trans T4).comp T46 (fun i hi hk => by omega)
    refine ⟨⟨?_, by simp; omega⟩, hT.comp t (fun i hi e => by omega)⟩
    have h1 : (l ++ [(⟨x, -1, .slice a0 n0 c0, win, o⟩ : EV)]).length = l.length + 1 := by simp
    rw [h1, ecells_app]
    have e1 : ecells [(⟨x, -1, .slice a0 n0 c0, win, o⟩ : EV)] = EV.cells ⟨x, -1, .slice a0 n0 c0, win, o⟩ := by simp [ecells]
    rw [e1]
    exact row_low (own_turn hown6 t (fun k hk e => by have := (hown6.lt k hk).1; omega)) (Nat.zero_le _)
set_option maxRecDepth 100000 in
set_option maxHeartbeats 2000000 in
theorem rAdd_yes {w : World} {v : Value} {l : List EV} {cs : Value} {o : Option Int} {x win : Int} (h : ERow w v l) (ht : TabsAt w l) (hm : l.length ≤ 200) (h0 : 0 ≤ x) (hx : ∀ e ∈ l, e.id < x) (hp : PlainTab 0 w cs o) :
    Calls Try.prog 13 #[v, .int .i64 x, .agg #[cs, .int .i64 win, .bool false]] w fun e w' => ∃ v', e = .returned (.agg #[v', .bool true]) ∧ ERow w' v' (l ++ [⟨x, -1, cs, win, o⟩]) ∧ Turn (fun _ => False) w w' := by
  obtain ⟨ca, cn, cc, rfl⟩ := plain_slice hp
  obtain ⟨ra, rc, w4, hrun4, ⟨c0, c1, c2⟩, a2, r2, w6, hrun6, ⟨d0, d1, k0, k1⟩, hfin⟩ := radd_mem (x := x) (win := win) h ht hm hp
  obtain ⟨a, c, rfl, hg⟩ := own_slice h.own
  have u0 : decide (x < 0) = false := by simp; omega
  have RUN4 := Lib.hid hrun4
  have RUN6 := Lib.hid hrun6
  have FIN := Lib.hid hfin
  clear hrun4 hrun6 hfin hp
  rcases Nat.eq_zero_or_pos l.length with hl0 | hl0
  · have u1 : decide (0 < (l.length : Int)) = false := decide_eq_false (by omega)
    have u3 : ¬ 0 < l.length := by omega
    clear h ht hg hx hl0
    go_enter Try.func13, Try.ntmps13
    go_wp2_with (first | ((with_reducible show wpList _ _ _ [_, _] _ _); refine rl_append_run (by rfl) _ _ _ (by rfl) (by rfl) (by rfl) RUN4.out ?_) | ((with_reducible show wpList _ _ _ [_, _, _] _ _); refine rl_append_run (by rfl) _ _ _ (by rfl) (by rfl) (by rfl) RUN6.out ?_))
    refine bodyPost_ret (v := .agg #[.slice a2 (l.length + 1) r2, .bool true]) (by simp [results, Try.results13, go_sem, cell_off, d0, d1]) rfl ⟨_, rfl, FIN.out _ ?_⟩
    exact ((Turn.refl (fun b => b = w.heap.size + 1) w6).put rfl _).put rfl _
  · have u1 : decide (0 < (l.length : Int)) = true := decide_eq_true (by omega)
    obtain ⟨g, rfl⟩ := hg hl0
    obtain ⟨k, hk⟩ : ∃ k, k + 1 = l.length := ⟨l.length - 1, by omega⟩
    obtain ⟨e, he⟩ : ∃ e, l[k]? = some e := ⟨_, List.getElem?_eq_getElem (by omega)⟩
    have u2 : decide (x ≤ e.id) = false := decide_eq_false (by have := hx e (List.mem_of_getElem? he); omega)
    have y0 : w.cell? ⟨g, k * 5, none⟩ = some (.int .i64 e.id) := (h.own.cellAt (k * 5) (by omega)).trans (ecells_at l k e he).1
    have y0 := past (o := .cells #[.slice none 0 0, .bool false] 33) (past (o := .cells #[.slice ca cn cc, .int .i64 win, .bool false] 38) y0)
    have hll := h.lt
    have es : (l.length : Int) - 1 = (k : Int) := by omega
    have hk0 : (0 : Int) ≤ (k : Int) := by omega
    have hk1 : (k : Int) < (l.length : Int) := by omega
    have hwp : IntKind.i64.wrap (k : Int) = (k : Int) := IntWalk.i64_in _ (by omega)
    clear h ht hg hx he hk
    generalize e.id = eid at *
    go_enter Try.func13, Try.ntmps13
    go_wp2_with (first | ((with_reducible show wpList _ _ _ [_, _] _ _); refine rl_append_run (by rfl) _ _ _ (by rfl) (by rfl) (by rfl) RUN4.out ?_) | ((with_reducible show wpList _ _ _ [_, _, _] _ _); refine rl_append_run (by rfl) _ _ _ (by rfl) (by rfl) (by rfl) RUN6.out ?_))
    refine bodyPost_ret (v := .agg #[.slice a2 (l.length + 1) r2, .bool true]) (by simp [results, Try.results13, go_sem, cell_off, d0, d1]) rfl ⟨_, rfl, FIN.out _ ?_⟩
    exact ((Turn.refl (fun b => b = w.heap.size + 1) w6).put rfl _).put rfl _
set_option maxRecDepth 100000 in
set_option maxHeartbeats 2000000 in
theorem rAdd_no {w : World} {v : Value} {l : List EV} {cs : Value} {o : Option Int} {x win : Int} (h : ERow w v l) (hp : PlainTab 0 w cs o) (hx : x < 0 ∨ ∃ k e, k + 1 = l.length ∧ l[k]? = some e ∧ x ≤ e.id) :
    Calls Try.prog 13 #[v, .int .i64 x, .agg #[cs, .int .i64 win, .bool false]] w fun e w' => e = .returned (.agg #[v, .bool false]) ∧ Turn (fun _ => False) w w' := by
  obtain ⟨ca, cn, cc, rfl⟩ := plain_slice hp
  obtain ⟨a, c, rfl, hg⟩ := own_slice h.own
  have HR := Lib.hid h
  have HX := Lib.hid hx
  clear h hp hx
  by_cases hx0 : x < 0
  · have t1 : decide (x < 0) = true := by simpa using hx0
    clear hg
    go_enter Try.func13, Try.ntmps13
    go_wp2
    refine bodyPost_ret (v := .agg #[.slice a l.length c, .bool false]) (by simp [results, Try.results13, go_sem]) rfl ⟨rfl, ((Turn.refl _ w).alloc _).alloc _⟩
  · have t1 : decide (x < 0) = false := by simpa using hx0
    obtain ⟨k, e, hk, he, hle⟩ := HX.out.resolve_left hx0
    obtain ⟨g, rfl⟩ := hg (by omega)
    have y0 := past (o := .cells #[.slice none 0 0, .bool false] 33) (past (o := .cells #[.slice ca cn cc, .int .i64 win, .bool false] 38) ((HR.out.own.cellAt (k * 5) (by omega)).trans (ecells_at l k e he).1))
    have hl := HR.out.lt
    have t2 : decide ((0 : Int) < (l.length : Int)) = true := decide_eq_true (by omega)
    have hl0 : 0 < l.length := by omega
    have t3 : decide (x ≤ e.id) = true := by simpa using hle
    have es : (l.length : Int) - 1 = (k : Int) := by omega
    have hk0 : (0 : Int) ≤ (k : Int) := by omega
    have hk1 : (k : Int) < (l.length : Int) := by omega
    have hwp : IntKind.i64.wrap (k : Int) = (k : Int) := IntWalk.i64_in _ (by omega)
    generalize e.id = eid at *
    clear hk he HX hg hx0 hle
    go_enter Try.func13, Try.ntmps13
    go_wp2
    refine bodyPost_ret (v := .agg #[.slice (some ⟨g, 0, none⟩) l.length c, .bool false]) (by simp [results, Try.results13, go_sem]) rfl ⟨rfl, ((Turn.refl _ w).alloc _).alloc _⟩
end Go.Proofs.Ytbpcocobimdcnaa
