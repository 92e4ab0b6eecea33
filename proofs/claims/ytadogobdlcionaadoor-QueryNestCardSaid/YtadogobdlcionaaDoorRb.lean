/-
  What the parser asks of the next token.
-/
import Derived.Test.YtadogobdlcionaaDoorRa
namespace Go.Proofs.YtadogobdlcionaaDoor
open Go.ChangeShapes Go.WideShapes Go.ChangeAt Go.RowKit
set_option linter.unusedVariables false
/-- The text of a token. -/
def textOf (s : ByteArray) (x : Nat × Tok) : ByteArray := s.extract x.1 (x.1 + x.2.len)
theorem text_beq (a b : ByteArray) : (a.toList == b.toList) = decide (a = b) := by
  rw [ByteArray.toList_eq, ByteArray.toList_eq, Bool.eq_iff_iff]
  simp only [beq_iff_eq, decide_eq_true_eq]
  constructor
  · intro h
    cases a
    cases b
    congr
    exact Array.toList_inj.1 h
  · rintro rfl
    rfl
set_option maxRecDepth 100000 in
set_option maxHeartbeats 2000000 in
theorem has_none (w : World) {p base : Nat} {s : ByteArray} {L : List (Nat × Tok)} {v : Value} {i e nest : Nat} (h : ParAt w p base s L v i e nest) (hi : L.length ≤ i) (t : ByteArray) :
    Calls Tryd.prog 20 #[.pointer (some ⟨p, 0, none⟩), .string t] w fun y w' => y = .returned (.bool false) ∧ Turn (fun _ => False) w w' := by
  have PK := Lib.hid (peek_none w h hi)
  clear h hi
  unfold ztok at PK
  go_enter Tryd.func20, Tryd.ntmps20
  go_wp2_with fail
  with_reducible refine PK.out.mono ?_
  rintro y w1 ⟨rfl, T1⟩
  have F := Lib.hid (T1.trans (show Turn (fun _ => False) w1 (w1.alloc (.cells #[.int .i64 0, .int .i64 0, .string ⟨#[]⟩, .int .i64 0] 67)) from (Turn.refl _ _).alloc _))
  clear T1
  go_wp2_with fail
  go_ret
  exact ⟨rfl, F.out⟩
set_option maxRecDepth 100000 in
set_option maxHeartbeats 2000000 in
theorem has_some (w : World) {p base : Nat} {s : ByteArray} {L : List (Nat × Tok)} {v : Value} {i e nest : Nat} (h : ParAt w p base s L v i e nest) {x : Nat × Tok} (hx : L[i]? = some x) (t : ByteArray) :
    Calls Tryd.prog 20 #[.pointer (some ⟨p, 0, none⟩), .string t] w fun y w' => (textOf s x = t ∧ y = .returned (.bool true) ∧ Turn (fun k => k = p) w w' ∧ ParAt w' p base s L v (i + 1) e nest) ∨ (textOf s x ≠ t ∧ y = .returned (.bool false) ∧ Turn (fun _ => False) w w') := by
  have PK := Lib.hid (peek_some w h hx)
  have HP := Lib.hid h
  have hi := (List.getElem?_eq_some_iff.1 hx).1
  have hw : wrap64 ((i : Int) + 1) = ((i + 1 : Nat) : Int) := by have := h.le; unfold wrap64; omega
  have hlt := h.bl.lt
  have HL := Lib.hid hlt
  clear h hx hi hlt
  unfold tokC tokL at PK
  obtain ⟨tx, htx⟩ : ∃ tx, tx = textOf s x := ⟨_, rfl⟩
  rw [show s.extract x.1 (x.1 + x.2.len) = tx from htx.symm] at PK
  rw [← htx]
  clear htx
  go_enter Tryd.func20, Tryd.ntmps20
  go_wp2_with fail
  with_reducible refine PK.out.mono ?_
  rintro y w1 ⟨rfl, T1⟩
  obtain ⟨W, hW⟩ : ∃ W, W = w1.alloc (.cells #[.int .i64 (x.2.kind : Int), .int .i64 (x.1 : Int), .string tx, .int .i64 (x.2.n : Int)] 67) := ⟨_, rfl⟩
  have T2 : Turn (fun _ => False) w1 W := by rw [hW]; exact (Turn.refl _ _).alloc _
  have d2 : W.cell? ⟨w1.heap.size, 2, none⟩ = some (.string tx) := by rw [hW]; exact cell_new rfl rfl
  have P2 := (HP.out.turn T1).turn T2
  have c1 := P2.c1
  have f1 := P2.bl.fz
  have F := Lib.hid (And.intro (T1.trans T2) P2)
  have HW := Lib.hid hW
  clear T1 T2 P2 hW
  go_upto_region 2 with fail
  rw [← HW.out]
  by_cases ht : tx = t
  · have u1 : (tx.toList == t.toList) = true := by rw [text_beq]; exact decide_eq_true ht
    have H := Lib.hid ht
    clear ht
    have TP := Turn.put W p 1 (.int .i64 ((i + 1 : Nat) : Int))
    have G := Lib.hid (And.intro ((F.out.1.more (fun _ _ f => f.elim)).trans TP) (F.out.2.go (i + 1)))
    obtain ⟨z, hz⟩ : ∃ z : Int, z = ((i + 1 : Nat) : Int) := ⟨_, rfl⟩
    rw [← hz] at hw G
    clear hz TP
    go_wp2_with fail
    go_ret
    exact .inl ⟨H.out, rfl, G.out⟩
  · have u1 : (tx.toList == t.toList) = false := by rw [text_beq]; exact decide_eq_false ht
    have H := Lib.hid ht
    clear ht
    go_wp2_with fail
    go_ret
    exact .inr ⟨H.out, rfl, F.out.1⟩
/-- What the parser panics with. -/
def stopE (a r : Nat) : Ending := .panicked [{ v := .iface 37 (.agg #[.int .i64 (a : Int), .int .i64 (r : Int)]), recovered := false }]
/-- Where the parser stands, in the text. -/
def placeE (L : List (Nat × Tok)) (e i : Nat) : Nat := match L[i]? with
  | some x => x.1
  | none => e
set_option maxRecDepth 100000 in
set_option maxHeartbeats 2000000 in
theorem refuse_is (w : World) {p base : Nat} {s : ByteArray} {L : List (Nat × Tok)} {v : Value} {i e nest : Nat} (h : ParAt w p base s L v i e nest) :
    Calls Tryd.prog 25 #[.pointer (some ⟨p, 0, none⟩)] w fun y w' => y = stopE (placeE L e i) 11 ∧ Turn (fun _ => False) w w' := by
  have c2 := h.c2
  cases hx : L[i]? with
  | none =>
    have PK := Lib.hid (peek_none w h (by rw [List.getElem?_eq_none_iff] at hx; exact hx))
    have hp : placeE L e i = e := by unfold placeE; rw [hx]
    rw [hp]
    clear h hx hp
    unfold ztok at PK
    go_enter Tryd.func25, Tryd.ntmps25
    go_wp2_with fail
    with_reducible refine PK.out.mono ?_
    rintro y w1 ⟨rfl, T1⟩
    have F := Lib.hid (T1.trans (show Turn (fun _ => False) w1 (w1.alloc (.cells #[.int .i64 0, .int .i64 0, .string ⟨#[]⟩, .int .i64 0] 67)) from (Turn.refl _ _).alloc _))
    clear T1
    go_wp2_with fail
    exact ⟨rfl, rfl, F.out⟩
  | some x =>
    have PK := Lib.hid (peek_some w h hx)
    have hp : placeE L e i = x.1 := by unfold placeE; rw [hx]
    rw [hp]
    clear h hx hp
    unfold tokC tokL at PK
    generalize s.extract x.1 (x.1 + x.2.len) = tx at *
    go_enter Tryd.func25, Tryd.ntmps25
    go_wp2_with fail
    with_reducible refine PK.out.mono ?_
    rintro y w1 ⟨rfl, T1⟩
    have F := Lib.hid (T1.trans (show Turn (fun _ => False) w1 (w1.alloc (.cells #[.int .i64 (x.2.kind : Int), .int .i64 (x.1 : Int), .string tx, .int .i64 (x.2.n : Int)] 67)) from (Turn.refl _ _).alloc _))
    clear T1
    go_wp2_with fail
    exact ⟨rfl, rfl, F.out⟩
/-- Does a token of that text stand there? -/
def hasB (s : ByteArray) (L : List (Nat × Tok)) (t : ByteArray) (i : Nat) : Bool := match L[i]? with
  | some x => decide (textOf s x = t)
  | none => false
/-- Both at once. -/
theorem has_is (w : World) {p base : Nat} {s : ByteArray} {L : List (Nat × Tok)} {v : Value} {i e nest : Nat} (h : ParAt w p base s L v i e nest) (t : ByteArray) :
    Calls Tryd.prog 20 #[.pointer (some ⟨p, 0, none⟩), .string t] w fun y w' => y = .returned (.bool (hasB s L t i)) ∧ Turn (fun k => k = p) w w' ∧ ParAt w' p base s L v (if hasB s L t i then i + 1 else i) e nest := by
  cases hx : L[i]? with
  | none =>
    have hb : hasB s L t i = false := by unfold hasB; rw [hx]
    rw [hb]
    refine (has_none w h (by rw [List.getElem?_eq_none_iff] at hx; exact hx) t).mono ?_
    rintro y w' ⟨rfl, T⟩
    exact ⟨rfl, T.more (fun _ _ f => f.elim), h.turn T⟩
  | some x =>
    have hb : hasB s L t i = decide (textOf s x = t) := by unfold hasB; rw [hx]
    rw [hb]
    refine (has_some w h hx t).mono ?_
    rintro y w' (⟨ht, rfl, T, P⟩ | ⟨ht, rfl, T⟩)
    · rw [decide_eq_true ht]
      exact ⟨rfl, T, P⟩
    · rw [decide_eq_false ht]
      exact ⟨rfl, T.more (fun _ _ f => f.elim), h.turn T⟩
set_option maxRecDepth 100000 in
set_option maxHeartbeats 2000000 in
theorem want_is (w : World) {p base : Nat} {s : ByteArray} {L : List (Nat × Tok)} {v : Value} {i e nest : Nat} (h : ParAt w p base s L v i e nest) (t : ByteArray) :
    Calls Tryd.prog 18 #[.pointer (some ⟨p, 0, none⟩), .string t] w fun y w' => (hasB s L t i = true ∧ y = .returned (.tuple #[]) ∧ Turn (fun k => k = p) w w' ∧ ParAt w' p base s L v (i + 1) e nest) ∨ (hasB s L t i = false ∧ y = stopE (placeE L e i) 11 ∧ Turn (fun k => k = p) w w') := by
  have HS := Lib.hid (has_is w h t)
  have RF := Lib.hid (fun (w' : World) (h : ParAt w' p base s L v i e nest) => refuse_is w' h)
  clear h
  go_enter Tryd.func18, Tryd.ntmps18
  go_wp2_with fail
  with_reducible refine HS.out.mono ?_
  rintro y w1 ⟨rfl, T1, P1⟩
  cases hb : hasB s L t i with
  | true =>
    rw [hb] at P1
    have F := Lib.hid (And.intro T1 P1)
    clear T1 P1
    go_wp2_with fail
    go_end0
    exact .inl ⟨hb, rfl, F.out⟩
  | false =>
    rw [hb] at P1
    have R1 := Lib.hid (RF.out w1 P1)
    have F := Lib.hid T1
    clear T1 P1
    go_wp2_with fail
    with_reducible refine R1.out.mono ?_
    rintro y w2 ⟨rfl, T2⟩
    have G := Lib.hid (F.out.trans (T2.more (fun _ _ f => f.elim)))
    clear T2
    unfold stopE
    go_wp2_with fail
    exact ⟨rfl, .inr ⟨hb, rfl, G.out⟩⟩
end Go.Proofs.YtadogobdlcionaaDoor
