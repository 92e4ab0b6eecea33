/-
  A part of what is printed: a chain of pieces.
-/
import Derived.Test.YtadogobdlcionaaDoorSd
namespace Go.Proofs.YtadogobdlcionaaDoor
open Go.ChangeShapes Go.WideShapes Go.ChangeAt Go.RowKit Go.Shelf
set_option linter.unusedVariables false
abbrev Pcs := List (Nat × ByteArray)
def blP (P : Pcs) : List Nat := P.map (·.1)
def txP (P : Pcs) : List ByteArray := P.map (·.2)
/-- A chain of pieces in memory. -/
def ChAt (W : World) : Pcs → Option Addr → Prop
  | [], p => p = none
  | x :: r, p => p = some ⟨x.1, 0, none⟩ ∧ Blk W x.1 104 ∧ W.cell? ⟨x.1, 0, none⟩ = some (.string x.2) ∧ ∃ q, W.cell? ⟨x.1, 1, none⟩ = some (.pointer q) ∧ ChAt W r q
theorem ChAt.turn {W W' : World} {S : Nat → Prop} (T : Turn S W W') : ∀ {P : Pcs} {p : Option Addr}, ChAt W P p → (∀ k ∈ blP P, ¬ S k) → ChAt W' P p
  | [], _, h, _ => h
  | x :: r, _, ⟨e, b, c, q, d, h⟩, hs =>
    have hx : ¬ S x.1 := hs x.1 (by simp [blP])
    ⟨e, b.turn T hx, T.cell hx c, q, T.cell hx d, ChAt.turn T h (fun k hk => hs k (by simp [blP] at hk ⊢; exact .inr hk))⟩
theorem ChAt.blk {W : World} : ∀ {P : Pcs} {p : Option Addr}, ChAt W P p → ∀ k ∈ blP P, Blk W k 104
  | x :: r, _, ⟨_, b, _, _, _, h⟩, k, hk => by
    simp only [blP, List.map_cons, List.mem_cons] at hk
    rcases hk with rfl | hk
    · exact b
    · exact ChAt.blk h k hk
/-- Two chains become one. -/
theorem ChAt.join {W : World} : ∀ {P : Pcs} {x : Nat × ByteArray} {R : Pcs} {p q : Option Addr}, ChAt W (P ++ [x]) p → ChAt W R q → (blP (P ++ [x] ++ R)).Nodup → ChAt (W.setCell ⟨x.1, 1, none⟩ (.pointer q)) (P ++ [x] ++ R) p
  | [], x, R, p, q, ⟨e, b, c, q', d, h⟩, hr, hn => by
    have T := Turn.put W x.1 1 (.pointer q)
    refine ⟨e, b.set _ _, (cell_off _ _ _ _ _ (by decide)).trans c, q, World.cell?_setCell_same _ _ _ d, ?_⟩
    refine hr.turn T (fun k hk e => ?_)
    subst e
    simp only [blP, List.nil_append, List.singleton_append, List.map_cons, List.nodup_cons] at hn
    exact hn.1 hk
  | y :: P, x, R, p, q, ⟨e, b, c, q', d, h⟩, hr, hn => by
    have hn2 : (y.1 ∉ (blP (P ++ [x] ++ R))) ∧ (blP (P ++ [x] ++ R)).Nodup := by
      simpa only [blP, List.cons_append, List.map_cons, List.nodup_cons] using hn
    have hyx : y.1 ≠ x.1 := fun e => hn2.1 (by simp [blP, e])
    have T := Turn.put W x.1 1 (.pointer q)
    exact ⟨e, b.turn T hyx, (cell_far _ _ _ _ _ _ (Ne.symm hyx)).trans c, q', (cell_far _ _ _ _ _ _ (Ne.symm hyx)).trans d, ChAt.join h hr hn2.2⟩
/-- A part: its first and its last piece, and how closely it holds. -/
def PartAt (W : World) (P : Pcs) (h : Int) (v : Value) : Prop := ∃ Q x a, P = Q ++ [x] ∧ v = .agg #[.pointer (some a), .pointer (some ⟨x.1, 0, none⟩), .int .i64 h] ∧ ChAt W P (some a) ∧ (blP P).Nodup
theorem PartAt.turn {W W' : World} {S : Nat → Prop} {P : Pcs} {h : Int} {v : Value} (hp : PartAt W P h v) (T : Turn S W W') (hs : ∀ k ∈ blP P, ¬ S k) : PartAt W' P h v := by
  obtain ⟨Q, x, a, e1, e2, e3, e4⟩ := hp
  exact ⟨Q, x, a, e1, e2, e3.turn T hs, e4⟩
theorem PartAt.blk {W : World} {P : Pcs} {h : Int} {v : Value} (hp : PartAt W P h v) : ∀ k ∈ blP P, Blk W k 104 := by
  obtain ⟨Q, x, a, e1, e2, e3, e4⟩ := hp
  exact e3.blk
/-- A part that was made out of others. -/
def Made (W W' : World) (old : List Nat) (ts : List ByteArray) (h : Int) (v : Value) : Prop := ∃ P : Pcs, txP P = ts ∧ PartAt W' P h v ∧ (∀ k ∈ blP P, k ∈ old ∨ W.heap.size ≤ k) ∧ Turn (fun k => k ∈ old) W W'
theorem size91 : (Tryd.prog.info? 91).map (fun i => i.size) = some 3 := by kernel_rfl
def ptL (a b : Option Addr) (h : Int) : List Value := [.pointer a, .pointer b, .int .i64 h]
abbrev zpt : List Value := [.pointer none, .pointer none, .int .i64 0]
/-- A part is written to the result. -/
theorem part_end {W : World} {fn : Func} {n b : Nat} {act : Act} {Q : Ending → World → Prop} (hr : fn.results = #[.cell n 91]) {l : List Value} (R : W.rangeAt b 0 l) (hl : l.length = 3) (B : Blk W b 91) (x y : Option Addr) (h : Int) (hd : act.defers = []) (hp : act.tmps.getD n undef = .pointer (some ⟨b, 0, none⟩))
    (hq : ∀ W', Turn (fun k => k = b) W W' → Q (.returned (.agg #[.pointer x, .pointer y, .int .i64 h])) W') :
    bodyPost Tryd.prog fn Q Exit.ret act (((W.setCell ⟨b, 0, none⟩ (.pointer x)).setCell ⟨b, 1, none⟩ (.pointer y)).setCell ⟨b, 2, none⟩ (.int .i64 h)) :=
  have R2 := World.rangeAt_setCells_same W b 0 (ptL x y h) (range_there R hl B)
  bodyPost_ret (v := .agg #[.pointer x, .pointer y, .int .i64 h]) (res_cell hr hp (run_loadVar_mid _ b 0 91 _ _ R2 Tryd.underlying91 rfl size91)) hd (hq _ (Turn.setCells (ptL x y h) 0 (Turn.refl _ _) (.inl rfl)))
set_option maxRecDepth 100000 in
set_option maxHeartbeats 2000000 in
theorem single_is (w : World) (t : ByteArray) : Calls Tryd.prog 43 #[.string t] w fun y w' => ∃ v, y = .returned v ∧ Made w w' [] [t] 2 v := by
  obtain ⟨W, hW⟩ : ∃ W, W = (w.alloc (.cells #[.pointer none, .pointer none, .int .i64 0] 91)).alloc (.cells #[.string t, .pointer none] 104) := ⟨_, rfl⟩
  have T0 : Turn (fun _ => False) w W := by rw [hW]; exact ((Turn.refl _ _).alloc _).alloc _
  have RR : W.rangeAt w.heap.size 0 zpt := by rw [hW]; exact range_turn (range_new w zpt 91) ((Turn.refl (fun _ => False) _).alloc _) id
  have BR : Blk W w.heap.size 91 := by rw [hW]; exact (Blk.new w zpt 91).turn ((Turn.refl (fun _ => False) _).alloc _) id
  have RE : W.rangeAt (w.heap.size + 1) 0 [.string t, .pointer none] := by rw [hW]; have := range_new (w.alloc (.cells #[.pointer none, .pointer none, .int .i64 0] 91)) [.string t, .pointer none] 104; rw [World.size_alloc] at this; exact this
  have BE : Blk W (w.heap.size + 1) 104 := by rw [hW]; have := Blk.new (w.alloc (.cells #[.pointer none, .pointer none, .int .i64 0] 91)) [.string t, .pointer none] 104; rw [World.size_alloc] at this; exact this
  have y0 := RR 0 _ rfl
  have y1 := RR 1 _ rfl
  have y2 := RR 2 _ rfl
  have ff := BR.fz
  have HW := Lib.hid hW
  have F := Lib.hid (And.intro T0 (And.intro RR (And.intro BR (And.intro RE BE))))
  clear hW T0 RR BR RE BE
  go_enter Tryd.func43, Tryd.ntmps43
  go_upto_region 2 with fail
  rw [← HW.out]
  clear HW
  go_wp2_with fail
  refine part_end rfl F.out.2.1 rfl F.out.2.2.1 _ _ _ rfl rfl (fun W' T => ?_)
  have TT : Turn (fun _ => False) w W' := F.out.1.comp T (fun k hk q => by omega)
  refine ⟨_, rfl, [(w.heap.size + 1, t)], rfl, ⟨[], (w.heap.size + 1, t), _, rfl, rfl, ⟨rfl, F.out.2.2.2.2.turn T (by omega), T.cell (by omega) (F.out.2.2.2.1 0 _ rfl), none, T.cell (by omega) (F.out.2.2.2.1 1 _ rfl), rfl⟩, by simp [blP]⟩, fun k hk => .inr (by simp [blP] at hk; omega), TT.more (fun _ _ f => f.elim)⟩
end Go.Proofs.YtadogobdlcionaaDoor
