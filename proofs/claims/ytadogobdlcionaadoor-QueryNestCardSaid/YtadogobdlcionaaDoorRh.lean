/-
  How a sum is read: the program's parser told as a plain function, with fuel; a part that stands in a sign or a bracket.
-/
import Derived.Test.YtadogobdlcionaaDoorRg
namespace Go.Proofs.YtadogobdlcionaaDoor
open Go.ChangeShapes Go.WideShapes Go.ChangeAt Go.RowKit Go.Shelf
set_option linter.unusedVariables false
/-- A code. -/
structure CD where
  op : Int
  n : Int
  var : ByteArray
  field : Int
def CD.cells (c : CD) : List Value := [.int .i64 c.op, .int .i64 c.n, .string c.var, .int .i64 c.field, .int .i64 0]
def cdsC (l : List CD) : List Value := (l.map CD.cells).flatten
/-- Codes in memory, in a block of their own. -/
def cdsV (b : Nat) (l : List CD) (w : World) (x : Value) : Prop := w.ownsRow b 95 5 x l.length (cdsC l)
/-- The text that stands there, or none. -/
def textAt (s : ByteArray) (L : List (Nat × Tok)) (i : Nat) : ByteArray := match L[i]? with
  | some x => textOf s x
  | none => ⟨#[]⟩
/-- Which sign stands there, by its number; 0: none. -/
def opAt (s : ByteArray) (L : List (Nat × Tok)) (i : Nat) : Int := 1 + idxI reckonsT (textAt s L i)
/-- What is read. -/
inductive Tg where
  | un
  | pr
  | su
  | lp (b : Bool) (l : List CD)
abbrev shut : ByteArray := ⟨#[41]⟩
abbrev dot : ByteArray := ⟨#[46]⟩
def zcd : CD := ⟨0, 0, ⟨#[]⟩, 0⟩
def readF (s : ByteArray) (L : List (Nat × Tok)) (e : Nat) : Nat → Tg → Nat → Nat → PA (List CD)
  | 0, _, _, _ => .out
  | f + 1, .su, nest, i => match readF s L e f .pr nest i with
    | .ok l j => readF s L e f (.lp true l) nest j
    | r => r
  | f + 1, .pr, nest, i => match readF s L e f .un nest i with
    | .ok l j => readF s L e f (.lp false l) nest j
    | r => r
  | f + 1, .lp b l, nest, i =>
    if (if b then 1 else 3) ≤ opAt s L i ∧ opAt s L i ≤ (if b then 2 else 5) then
      match readF s L e f (if b then .pr else .un) nest (i + 1) with
      | .ok r j => readF s L e f (.lp b (l ++ r ++ [{ zcd with op := opAt s L i }])) nest j
      | r => r
    else .ok l i
  | f + 1, .un, nest, i => match takeB (unaryB s) L i with
    | none => .stop (placeE L e i) 11
    | some x =>
      if (textOf s x).toList == [45] then
        if nest = 16 then .stop x.1 12 else match readF s L e f .un (nest + 1) (i + 1) with
          | .ok l j => .ok (l ++ [{ zcd with op := 9 }]) j
          | r => r
      else if (textOf s x).toList == [40] then
        if nest = 16 then .stop x.1 12 else match readF s L e f .su (nest + 1) (i + 1) with
          | .ok l j => if hasB s L shut j then .ok l (j + 1) else .stop (placeE L e j) 11
          | r => r
      else if (textOf s x).toList == [35] then match takeB (nameB s) L (i + 1) with
        | some y => .ok [{ zcd with op := 8, var := textOf s y }] (i + 2)
        | none => .stop (placeE L e (i + 1)) 11
      else if x.2.kind = 3 then .ok [{ zcd with op := 6, n := x.2.n }] (i + 1)
      else if hasB s L dot (i + 1) then match takeB (inB lettersT s) L (i + 2) with
        | some y => .ok [{ zcd with op := 7, var := textOf s x, field := idxI lettersT (textOf s y) }] (i + 3)
        | none => .stop (placeE L e (i + 2)) 11
      else .stop (placeE L e (i + 1)) 11
theorem ParAt.deep {W : World} {p base : Nat} {s : ByteArray} {L : List (Nat × Tok)} {v : Value} {i e nest : Nat} (h : ParAt W p base s L v i e nest) (k : Nat) : ParAt (W.setCell ⟨p, 3, none⟩ (.int .i64 (k : Int))) p base s L v i e k :=
  ⟨h.bl.set _ _, (cell_off _ _ _ _ _ (by decide)).trans h.c0, (cell_off _ _ _ _ _ (by decide)).trans h.c1, (cell_off _ _ _ _ _ (by decide)).trans h.c2, World.cell?_setCell_same _ _ _ h.c3,
    own_turn h.row (Turn.put W p 3 _) (fun k hk q => by
      obtain ⟨⟨cs, hb⟩, _⟩ := own_blk h.row hk
      obtain ⟨cs', hb'⟩ := h.bl
      rw [q, hb'] at hb
      cases hb), h.le⟩
theorem own_above {b e' sz n : Nat} {xs : List Value} {W : World} {x : Value} (h : W.ownsRow b e' sz x n xs) {k : Nat} (hk : x.ownBlock = some k) : b ≤ k := by
  rcases h.2 with ⟨rfl, rfl⟩ | ⟨g, cap, cur, rfl, hg, _⟩
  · cases hk
  · have : g = k := by simpa [Value.ownBlock] using hk
    omega
theorem cdsV.turn {b : Nat} {l : List CD} {W W' : World} {S : Nat → Prop} {x : Value} (h : cdsV b l W x) (T : Turn S W W') (hs : ∀ k, b ≤ k → ¬ S k) : cdsV b l W' x := own_turn h T (fun k hk q => hs k (own_above h hk) q)
theorem cdsV.low {b c : Nat} {l : List CD} {W : World} {x : Value} (h : cdsV b l W x) (hc : c ≤ b) : cdsV c l W x := by
  refine ⟨h.1, ?_⟩
  rcases h.2 with q | ⟨g, cap, cur, e1, hg, r⟩
  · exact .inl q
  · exact .inr ⟨g, cap, cur, e1, Nat.le_trans hc hg, r⟩
set_option maxRecDepth 100000 in
set_option maxHeartbeats 4000000 in
/-- Too deep. -/
theorem nested_no (w : World) {p base : Nat} {s : ByteArray} {L : List (Nat × Tok)} {v : Value} {i e : Nat} (h : ParAt w p base s L v i e 16) (x : Nat × Tok) (pt : Value) :
    Calls Tryd.prog 85 #[.pointer (some ⟨p, 0, none⟩), .agg (tokC s x).toArray, pt] w fun y w' => y = stopE x.1 12 ∧ Turn (fun k => k = p) w w' := by
  unfold tokC tokL
  generalize s.extract x.1 (x.1 + x.2.len) = tx at *
  obtain ⟨W, hW⟩ : ∃ W, W = w.alloc (.cells #[.int .i64 (x.2.kind : Int), .int .i64 (x.1 : Int), .string tx, .int .i64 (x.2.n : Int)] 67) := ⟨_, rfl⟩
  have T0 : Turn (fun _ => False) w W := by rw [hW]; exact (Turn.refl _ _).alloc _
  have d1 : W.cell? ⟨w.heap.size, 1, none⟩ = some (.int .i64 (x.1 : Int)) := by rw [hW]; exact cell_new rfl rfl
  have c3 : W.cell? ⟨p, 3, none⟩ = some (.int .i64 16) := T0.cell id h.c3
  have F := Lib.hid (T0.more (S' := fun k => k = p) (fun _ _ f => f.elim))
  have HW := Lib.hid hW
  clear T0 hW h
  unfold stopE
  go_enter Tryd.func85, Tryd.ntmps85
  go_upto_region 1 with fail
  rw [← HW.out]
  go_wp2_with fail
  exact ⟨rfl, rfl, F.out⟩
/-- A part's contract at a depth, as a part within speaks of it. -/
def Part (w : World) (p base : Nat) (s : ByteArray) (L : List (Nat × Tok)) (v : Value) (i e nest : Nat) (fn : Nat) (r : PA (List CD)) : Prop :=
  (∀ args w, (callFunc fn args).run Tryd.prog w = .ok (.enter fn args) w) ∧ ∀ W, Turn (fun k => k = p) w W → ParAt W p base s L v i e nest → Calls Tryd.prog fn #[.pointer (some ⟨p, 0, none⟩)] W (PaPost p base s L v e nest W (cdsV W.heap.size) r)
set_option maxRecDepth 100000 in
set_option maxHeartbeats 4000000 in
/-- A part that stands in a sign, or a bracket. -/
theorem nested_yes (w : World) {p base : Nat} {s : ByteArray} {L : List (Nat × Tok)} {v : Value} {i e nest : Nat} (h : ParAt w p base s L v i e nest) (hn : nest < 16) (x : Nat × Tok) {fn : Nat} {r : PA (List CD)} (hp : Part w p base s L v i e (nest + 1) fn r) :
    Calls Tryd.prog 85 #[.pointer (some ⟨p, 0, none⟩), .agg (tokC s x).toArray, .func (.func fn) #[.pointer (some ⟨p, 0, none⟩)] #[]] w (PaPost p base s L v e nest w (cdsV w.heap.size) r) := by
  obtain ⟨ent, hp⟩ := hp
  unfold tokC tokL
  generalize s.extract x.1 (x.1 + x.2.len) = tx at *
  obtain ⟨W, hW⟩ : ∃ W, W = w.alloc (.cells #[.int .i64 (x.2.kind : Int), .int .i64 (x.1 : Int), .string tx, .int .i64 (x.2.n : Int)] 67) := ⟨_, rfl⟩
  have T0 : Turn (fun _ => False) w W := by rw [hW]; exact (Turn.refl _ _).alloc _
  have P0 := h.turn T0
  have c3 := P0.c3
  have f3 := P0.bl.fz
  have u1 : ((nest : Int) == 16) = false := beq_eq_false_iff_ne.2 (by omega)
  have hw : wrap64 ((nest : Int) + 1) = ((nest + 1 : Nat) : Int) := by unfold wrap64; omega
  have hw2 : wrap64 (((nest + 1 : Nat) : Int) - 1) = (nest : Int) := by unfold wrap64; omega
  have P1 := P0.deep (nest + 1)
  have T1 := (T0.more (S' := fun k => k = p) (fun _ _ f => f.elim)).trans (Turn.put W p 3 (.int .i64 ((nest + 1 : Nat) : Int)))
  obtain ⟨z, hz⟩ : ∃ z : Int, z = ((nest + 1 : Nat) : Int) := ⟨_, rfl⟩
  rw [← hz] at hw hw2 T1 P1
  obtain ⟨W1, hW1⟩ : ∃ X, X = W.setCell ⟨p, 3, none⟩ (.int .i64 z) := ⟨_, rfl⟩
  rw [← hW1] at T1 P1
  have C := Lib.hid (hp W1 T1 P1)
  have F := Lib.hid T1
  have HW := Lib.hid hW
  have HW1 := Lib.hid hW1
  have HZ := Lib.hid hz
  have HL := Lib.hid h.bl.lt
  clear T0 hW h hp hW1 hz P0 T1 P1 hn
  go_enter Tryd.func85, Tryd.ntmps85
  go_upto_region 1 with fail
  rw [← HW.out]
  go_upto_region 4 with fail
  rw [← HW1.out]
  clear c3 f3
  go_wp2_with fail
  with_reducible refine C.out.mono ?_
  intro y w2 hy
  cases r with
  | out => exact hy.elim
  | stop a b =>
    obtain ⟨rfl, T2⟩ := hy
    have G := Lib.hid (F.out.trans T2)
    clear T2
    unfold stopE
    go_wp2_with fail
    exact ⟨rfl, rfl, G.out⟩
  | ok l j =>
    obtain ⟨xv, rfl, V2, T2, P2⟩ := hy
    have c3 := P2.c3
    have f3 := P2.bl.fz
    have P3 := P2.deep nest
    have T3 := (F.out.trans T2).trans (Turn.put w2 p 3 (.int .i64 (nest : Int)))
    rw [← HZ.out] at c3
    have V3 := (V2.turn (Turn.put w2 p 3 (.int .i64 (nest : Int))) (fun k hk q => by have := HL.out; have := F.out.size; omega)).low F.out.size
    have G := Lib.hid (And.intro V3 (And.intro T3 P3))
    clear P2 T2 V2 P3 T3 V3
    go_wp2_with fail
    go_ret
    exact ⟨_, rfl, G.out.1, G.out.2.1, G.out.2.2⟩
end Go.Proofs.YtadogobdlcionaaDoor
