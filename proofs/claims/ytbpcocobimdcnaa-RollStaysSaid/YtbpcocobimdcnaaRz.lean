/-
  What Live tells, in a row of one's own.
-/
import Derived.Test.YtbpcocobimdcnaaRv
import Derived.Test.YtbpcocobimdcnaaRa
namespace Go.Proofs.Ytbpcocobimdcnaa
open Go.ChangeShapes Go.WideShapes Go.ChangeAt Go.RowKit Go.Shelf
set_option linter.unusedVariables false
attribute [local go_sem] Oper.semAt_some

set_option maxRecDepth 100000 in
theorem live_mk (w : World) (p : Option Addr) (at_ : Int) : Calls Try.prog 28 #[.pointer p, .int .i64 at_] w fun e w' => e = .returned (.func (.func 39) #[] #[.pointer (some ⟨w.heap.size, 0, none⟩), .pointer (some ⟨w.heap.size + 1, 0, none⟩)]) ∧ w' = (w.alloc (.cells #[.pointer p] 24)).alloc (.cells #[.int .i64 at_] 3) := by
  go_enter Try.func28, Try.ntmps28
  go_wp2
  go_ret
  exact ⟨by simp, rfl⟩
theorem live_givesR (n : Nat) (hn : 8 ≤ n) {e : TypeId} {w W : World} {B1 B2 : Nat} {p : Option Addr} {l : List EV} {at_ : Int} (h : RollS w p l) (hB : Below w.heap.size w W) (h1 : B1 < W.heap.size) (h2 : B2 < W.heap.size)
    (b1 : W.cell? ⟨B1, 0, none⟩ = some (.pointer p)) (b2 : W.cell? ⟨B2, 0, none⟩ = some (.int .i64 at_)) :
    GivesR e n Try.prog 39 #[.pointer (some ⟨B1, 0, none⟩), .pointer (some ⟨B2, 0, none⟩)] encE (KB w.heap.size) (fun ys => SameL ys (l.filter (livesAt at_))) (fun x V => PlainTab 0 V x.cs x.o) (l.filter (livesAt at_)).length W := fun lo J V hV hJ hY h0 =>
  live1_in n hn lo (e := e) h (hB.trans (hV.mono hB.size)) ((World.cell?_of_block (w := W) (hV.block _ h1)).trans b1) ((World.cell?_of_block (w := W) (hV.block _ h2)).trans b2) J hJ hY h0
def LiveI (w : World) (pre : List EV) (W : World) : Prop :=
  (∃ v, Boxed W w.heap.size 25 v ∧ W.ownsRow w.heap.size 48 5 v pre.length (ecells pre)) ∧ Below w.heap.size w W
theorem row_other {w w' : World} {base size n : Nat} {t : TypeId} {v : Value} {xs : List Value} (h : w.ownsRow base t size v n xs) {row : Option Nat} (hg : w.grownBy w' row) (hr : ∀ r, row = some r → ∃ o : Obj, w.heap[r]? = some o ∧ ∀ cs q, o ≠ .cells cs t q) : w'.ownsRow base t size v n xs := by
  refine own_keep h fun k hk => hg.block k (h.lt k hk).2 fun e => ?_
  obtain ⟨o, h1, h2⟩ := hr k e.symm
  rcases h.2 with ⟨e, _⟩ | ⟨g, cap, cur, e, hg, hgg, _⟩
  · rw [e] at hk
    cases hk
  · rw [e] at hk
    obtain rfl : g = k := by simpa [Value.ownBlock] using hk
    rw [h1] at hgg
    injection hgg with hgg
    exact h2 _ _ hgg
theorem row_not {w : World} {base size n : Nat} {t e : TypeId} {v : Value} {xs : List Value} (h : w.ownsRow base t size v n xs) (hne : t ≠ e) {k : Nat} {cs : Array Value} {q : Nat × Nat} (hk : w.heap[k]? = some (.cells cs e q)) : v.ownBlock ≠ some k := fun hk1 => by
  rcases h.2 with ⟨e, _⟩ | ⟨g, cap, cur, e, hg, hgg, _⟩
  · rw [e] at hk1
    cases hk1
  · rw [e] at hk1
    obtain rfl : g = k := by simpa [Value.ownBlock] using hk1
    rw [hk] at hgg
    injection hgg with hgg
    injection hgg with _ h2 _
    exact hne h2.symm
theorem liveI_own (w : World) : OwnFrom (w.heap.size + 3) (LiveI w) := fun s A B row ⟨⟨v, hb, ho⟩, hB⟩ hg hr =>
  ⟨⟨v, hb.kept hg (fun e => by have := (hr _ e.symm).1; omega), row_other ho hg (fun r e => by
    obtain ⟨_, o, h1, h2⟩ := hr r e
    exact ⟨o, h1, fun cs q e => by rw [e] at h2; cases h2⟩)⟩, hB.grown hg hB.size (fun r e => by have := (hr r e).1; omega)⟩
theorem liveI_bears (w : World) : BearsR 3 (w.heap.size + 3) (LiveI w) := fun s A B row ⟨⟨v, hb, ho⟩, hB⟩ hg hr =>
  ⟨⟨v, hb.kept hg (fun e => by have := (hr _ e.symm).1; omega), row_other ho hg (fun r e => by
    obtain ⟨_, o, h1, h2⟩ := hr r e
    refine ⟨o, h1, fun cs q e => ?_⟩
    rw [e] at h2
    rcases h2 with ⟨cs', q', h2⟩ | h2
    · injection h2 with _ h2 _
      revert h2
      decide
    · cases h2)⟩, hB.grown hg hB.size (fun r e => by have := (hr r e).1; omega)⟩
theorem plain_a {x : EV} {W : World} (o : Obj) (h : PlainTab 0 W x.cs x.o) : PlainTab 0 (W.alloc o) x.cs x.o := h.turn ((Turn.refl _ W).alloc o)
theorem plain_b {x : EV} {W : World} {l : Nat} {o o' : Obj} (h : PlainTab 0 W x.cs x.o) (hl : W.heap[l]? = some o) (ho : o.isCells = false) : PlainTab 0 (W.putObj l o') x.cs x.o := by
  obtain ⟨id, till, cs, win, ov⟩ := x
  cases ov with
  | none => exact h
  | some t =>
    obtain ⟨cb, c, hB, e, c0, c1, c2, c3⟩ := h
    have key : ∀ (j : Nat) (v : Value), W.cell? ⟨cb, j, none⟩ = some v → (W.putObj l o').cell? ⟨cb, j, none⟩ = some v := fun j v hv => by
      refine (World.cell?_of_block (w := W) (World.putObj_heap_other (fun e => ?_))).trans hv
      have e : cb = l := e
      subst e
      simp [World.cell?, hl] at hv
      cases o <;> simp_all [Obj.isCells]
    exact ⟨cb, c, hB, e, key _ _ c0, key _ _ c1, key _ _ c2, key _ _ c3⟩
theorem func_nil (a b : Value) (W : World) : (binOp BinOp.eql 72 (.func (.func 39) #[] #[a, b]) .nilFunc).run Try.prog W = .ok (.bool false) W := by kernel_rfl
set_option maxRecDepth 100000 in
set_option maxHeartbeats 2000000 in
theorem live_in (n : Nat) (hn : 12 ≤ n) {w : World} {p : Option Addr} {l : List EV} (h : RollS w p l) (at_ : Int) :
    CallsIn Fence.wide n Try.prog 17 #[.pointer p, .int .i64 at_] w fun e W' => ∃ v ys, e = .returned v ∧ SameL ys (l.filter (livesAt at_)) ∧ W'.ownsRow w.heap.size 48 5 v ys.length (ecells ys) ∧ Below w.heap.size w W' := by
  have h1 : 1 ≤ n := by omega
  obtain ⟨i0, hi, hz0, hz1, hz2⟩ := info_parts info48
  have bO := Boxed.new w 25 (.slice none 0 0)
  have hB0 : Below w.heap.size w (w.alloc (.cells #[.slice none 0 0] 25)) := (Below.refl _ w).alloc (Nat.le_refl _) _
  have MK := Lib.hid (live_mk (w.alloc (.cells #[.slice none 0 0] 25)) p at_)
  obtain ⟨W, hW⟩ : ∃ W, W = ((w.alloc (.cells #[.slice none 0 0] 25)).alloc (.cells #[.pointer p] 24)).alloc (.cells #[.int .i64 at_] 3) := ⟨_, rfl⟩
  have hB : Below w.heap.size w W := by
    rw [hW]
    exact (hB0.alloc (by simp) _).alloc (by simp; omega) _
  have hz : W.heap.size = w.heap.size + 3 := by rw [hW]; simp
  have bW : Boxed W w.heap.size 25 (.slice none 0 0) := by
    rw [hW]
    exact (bO.alloc _).alloc _
  have q1 : W.cell? ⟨w.heap.size + 1, 0, none⟩ = some (.pointer p) := by
    rw [hW]
    have := Boxed.alloc (Boxed.new (w.alloc (.cells #[.slice none 0 0] 25)) 24 (.pointer p)) (.cells #[.int .i64 at_] 3)
    rw [World.size_alloc] at this
    exact this.cell
  have q2 : W.cell? ⟨w.heap.size + 2, 0, none⟩ = some (.int .i64 at_) := by
    rw [hW]
    have := Boxed.new ((w.alloc (.cells #[.slice none 0 0] 25)).alloc (.cells #[.pointer p] 24)) 3 (.int .i64 at_)
    rw [World.size_alloc, World.size_alloc] at this
    exact this.cell
  have GV := Lib.hid (live_givesR (n - 1) (by omega) (e := 3) h hB (by omega) (by omega) q1 q2)
  have hol : (l.filter (livesAt at_)).length ≤ 1000 := Nat.le_trans (List.length_filter_le _ _) h.at_.lt
  generalize l.filter (livesAt at_) = out at *
  have II := Lib.hid (show LiveI w [] W from ⟨⟨_, bW, World.ownsRow_nil _ _ _ _⟩, hB⟩)
  clear h bO hB0 hB q1 q2 bW
  refine callsIn_of_wp_marks Try.func17 rfl trivial ?_ rfl
  simp only [Try.ntmps17, List.size_toArray, List.length_cons, List.length_nil, Nat.reduceAdd, Nat.reduceSub, Array.replicate_succ, Array.replicate_zero, List.push_toArray, List.append_toArray, List.nil_append, List.cons_append]
  gi_wp2_with fail
  refine ⟨trivial, ?_⟩
  refine (callsIn_wide.2 MK.out).mono ?_
  rintro e w1 ⟨rfl, e1⟩
  rw [← hW] at e1
  subst e1
  clear MK hW
  simp only [World.size_alloc]
  have fn0 := fun V => func_nil (.pointer (some ⟨w.heap.size + 1, 0, none⟩)) (.pointer (some ⟨w.heap.size + 1 + 1, 0, none⟩)) V
  gi_wp2_with fail
  refine range_tR h1 (gf := 39) (lb := #[.pointer (some ⟨w.heap.size + 1, 0, none⟩), .pointer (some ⟨w.heap.size + 2, 0, none⟩)]) rfl (enters_of Try.func39 (by kernel_rfl) rfl) GV.out (Below.refl _ _) (fun _ => rfl) kb_t ?kb (LiveI w) (by rw [hz]; exact liveI_own w) (by rw [hz]; exact liveI_bears w) (fun x V o h => plain_a o h) (fun x V l o o' h h1 h2 => plain_b h h1 h2) II.out
    (fun x k => { tmps := #[.pointer p, .int .i64 at_, undef, undef, .slice none 0 0, .pointer (some ⟨w.heap.size, 0, none⟩), .func (.func 39) #[] #[.pointer (some ⟨w.heap.size + 1, 0, none⟩), .pointer (some ⟨w.heap.size + 2, 0, none⟩)], .pointer (some ⟨k, 0, none⟩), .pointer p, .int .i64 at_, .func (.func 39) #[] #[.pointer (some ⟨w.heap.size + 1, 0, none⟩), .pointer (some ⟨w.heap.size + 2, 0, none⟩)], .func (.func 39) #[] #[.pointer (some ⟨w.heap.size + 1, 0, none⟩), .pointer (some ⟨w.heap.size + 2, 0, none⟩)], .bool false, .func (.func 39) #[] #[.pointer (some ⟨w.heap.size + 1, 0, none⟩), .pointer (some ⟨w.heap.size + 2, 0, none⟩)], x.val, undef, undef, undef, undef, undef], defers := [] })
    (fun x => .cells x.cells.toArray 48) ?ka ?assign ?body ?done
  case kb => exact fun V l o o' hl h ho => ⟨(grownBy_putObj' V l o').os, (grownBy_putObj' V l o').tape, (grownBy_putObj' V l o').output, (grownBy_putObj' V l o').size, fun k hk => World.putObj_heap_other (fun e => by
    subst e
    rcases hk with hk | ⟨cs, q, t, g, _⟩
    · omega
    · rw [h] at g
      cases g
      cases ho)⟩
  case ka => exact fun V x hz2 => ⟨rfl, rfl, rfl, by simp, fun k hk => Below.heap_alloc V _ k (by
    rcases hk with hk | ⟨cs, q, t, g, _⟩
    · omega
    · exact (Array.getElem?_eq_some_iff.1 g).1)⟩
  case assign =>
    intro l2 x V2 K hm hK
    obtain ⟨ca, cn, cc, hcs⟩ := plain_slice hm
    obtain ⟨id, till, cs, win, o⟩ := x
    dsimp only at hcs
    subst hcs
    unfold encE
    gi_wp2
    simpa [EV.val, EV.cells] using hK
  case body =>
    rintro l2 k pre x V2 ⟨⟨v, hv, hrow⟩, hB⟩ hx hk hlt hm
    have hn0 := hB.size
    have c1 := hv.cell
    obtain ⟨ca, cn, cc, hcs⟩ := plain_slice hm
    have h1c : ∀ u ∈ x.cells, u.oneCell' = true := fun u hu => by
      simp [EV.cells, hcs] at hu
      rcases hu with rfl | rfl | rfl | rfl | rfl <;> rfl
    obtain ⟨id, till, cs, win, o⟩ := x
    dsimp only at hcs
    subst hcs
    have x0 : V2.cell? ⟨k, 0, none⟩ = some (.int .i64 id) := by simp [World.cell?, hx, EV.cells]
    have x1 : V2.cell? ⟨k, 1, none⟩ = some (.int .i64 till) := by simp [World.cell?, hx, EV.cells]
    have x2 : V2.cell? ⟨k, 2, none⟩ = some (.slice ca cn cc) := by simp [World.cell?, hx, EV.cells]
    have x3 : V2.cell? ⟨k, 3, none⟩ = some (.int .i64 win) := by simp [World.cell?, hx, EV.cells]
    have x4 : V2.cell? ⟨k, 4, none⟩ = some (.bool false) := by simp [World.cell?, hx, EV.cells]
    unfold EV.val
    try dsimp only
    have rd : ∀ j u, (EV.cells ⟨id, till, .slice ca cn cc, win, o⟩)[j]? = some u → (V2.alloc (.cells #[.int .i64 id, .int .i64 till, .slice ca cn cc, .int .i64 win, .bool false] 48)).cell? ((⟨V2.heap.size, 0, none⟩ : Addr).add j) = some u := fun j u hu => by
      rw [Go.WideShapes.add_plain, Nat.zero_add]
      exact (World.cell?_alloc_new V2 _ 48 j).trans (by simpa [EV.cells] using hu)
    gi_wp2_with (gi_at_builtin; refine wpListIn_append_own_at _ rfl (.tmp 15) (.tmp 17) 25 rfl w.heap.size 48 i0 _ 5 56 Try.underlying25 hi hz0 hz1 hz2 rfl (by decide) _ _ _ rfl (hrow.alloc _) ⟨V2.heap.size, 0, none⟩ 1 1 (EV.cells ⟨id, till, .slice ca cn cc, win, o⟩) rfl rfl rd h1c (by unfold maxLen; omega) (by omega) (by simp; omega) ?_; intro v' w1 hown' hgrow _ hat; obtain ⟨g', cap', rfl⟩ := ownsRow_succ hown'; obtain ⟨q1, q2, q3, q4, q5⟩ := hv.appended (by decide) hrow hB.size (Nat.le_refl _) hown' hgrow; have qc := q1.cell; have qf := q1.frozen)
    have key : ∀ k, k < V2.heap.size → k ≠ w.heap.size → v.ownBlock ≠ some k → (w1.setCell ⟨w.heap.size, 0, none⟩ (.slice (some ⟨g', 0, none⟩) (pre.length + 1) cap')).heap[k]? = V2.heap[k]? := fun k hk h1 h2 => by
      rw [Below.heap_setCell _ _ _ _ (by exact h1), hgrow.block k (by simp; omega) (fun e => h2 e.symm)]
      exact Below.heap_alloc V2 _ k hk
    refine ⟨q4.from _, ⟨q5.os, q5.tape, q5.output, q4.size, fun k hk => ?_⟩, ⟨_, q2, by rw [ecells_app, List.length_append]; exact (by simpa [ecells] using q3)⟩, hB.trans q5⟩
    rcases hk with hk | ⟨cs, q, t, hc, ht⟩
    · exact key k (by omega) (by omega) (fun e => by have := (hrow.lt k e).1; omega)
    · refine key k (Array.getElem?_eq_some_iff.1 hc).1 (fun e => ?_) (row_not hrow (fun e => ?_) hc)
      · subst e
        have hb : V2.heap[w.heap.size]? = some (.cells #[v] 25 (0, 0)) := hv
        rw [hb] at hc
        injection hc with hc
        injection hc with _ h2 _
        rcases ht with rfl | rfl | rfl <;> exact absurd h2 (by decide)
      · rcases ht with rfl | rfl | rfl <;> exact absurd e (by decide)
  case done =>
    rintro D ys V2 hD hys ⟨⟨v, hv, hrow⟩, hB⟩ hK
    have hc := hv.cell
    gi_wp2
    refine ⟨by simp, .inl ⟨_, _, rfl, run_takeDeferred hK, ?_⟩⟩
    exact ⟨_, results_tmp rfl _ _ _, v, ys, rfl, hys, ownsRow_putObj hrow _ hK rfl, hB.trans (belowK_b (w := w) (Nat.le_refl _) V2 D _ _ (by omega) hK rfl rfl)⟩
theorem live_any {w : World} {p : Option Addr} {l : List EV} (h : RollS w p l) (at_ : Int) :
    Calls Try.prog 17 #[.pointer p, .int .i64 at_] w fun e W' => ∃ v ys, e = .returned v ∧ SameL ys (l.filter (livesAt at_)) ∧ W'.ownsRow w.heap.size 48 5 v ys.length (ecells ys) ∧ Below w.heap.size w W' :=
  callsIn_wide.1 (live_in 12 (Nat.le_refl _) h at_)
end Go.Proofs.Ytbpcocobimdcnaa
