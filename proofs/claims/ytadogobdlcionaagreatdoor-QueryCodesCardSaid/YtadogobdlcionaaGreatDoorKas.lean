/-
  Print: the text of a query.
  The chapter's examples, reckoned.
-/
import Derived.Test.YtadogobdlcionaaGreatDoorKar
import Derived.Lib.ItoaLen
set_option linter.unusedSimpArgs false
namespace Go.Proofs.YtadogobdlcionaaGreatDoor
open Go.ChangeShapes Go.WideShapes Go.ChangeAt Go.RowKit Go.Shelf
set_option linter.unusedVariables false
/-- Things one behind the other, f ahead of the first one, g ahead of each other one. -/
def catT (f g : List UInt8) : Nat → List (List UInt8) → List UInt8
  | _, [] => []
  | i, x :: r => (if i = 0 then f else g) ++ x ++ catT f g (i + 1) r
theorem catT_snoc (f g : List UInt8) : ∀ (l : List (List UInt8)) (i : Nat) (x : List UInt8), catT f g i (l ++ [x]) = catT f g i l ++ (if i + l.length = 0 then f else g) ++ x
  | [], i, x => by simp [catT]
  | y :: l, i, x => by
    rw [List.cons_append, catT, catT_snoc f g l (i + 1) x, catT, List.length_cons, show i + 1 + l.length = i + (l.length + 1) by omega]
    simp
abbrev seqB : ByteArray := ⟨#[115, 101, 113, 32]⟩
abbrev comB : ByteArray := ⟨#[44, 32]⟩
abbrev whB : ByteArray := ⟨#[32, 119, 104, 101, 114, 101, 32]⟩
abbrev andB : ByteArray := ⟨#[32, 97, 110, 100, 32]⟩
abbrev wiB : ByteArray := ⟨#[32, 119, 105, 116, 104, 105, 110, 32]⟩
abbrev byB : ByteArray := ⟨#[32, 98, 121, 32, 107, 101, 121]⟩
def elsT (l : List EL) : List UInt8 := catT seqB.data.toList comB.data.toList 0 (l.map elT)
def cnsT (l : List CN) : List UInt8 := catT whB.data.toList andB.data.toList 0 (l.map cnT)
def printOk (q : QU) : Bool := decide (q.elems ≠ []) && (q.elems.all elOk && q.conds.all cnOk)
/-- The text of a query; nothing, if it has none. -/
def printT (q : QU) : ByteArray := if printOk q then ⟨(elsT q.elems ++ cnsT q.conds ++ wiB.data.toList ++ Lib.itoa q.window ++ (if q.byKey then byB.data.toList else [])).toArray⟩ else ⟨#[]⟩
structure CnFit (c : CN) : Prop where
  n : c.left.length ≤ 1000000 ∧ c.right.length ≤ 1000000
  f : (∀ d ∈ c.left, CdFit d) ∧ ∀ d ∈ c.right, CdFit d
  s : (∀ ts, sumT c.left = some ts → (flat ts).length ≤ 1000000000) ∧ ∀ ts, sumT c.right = some ts → (flat ts).length ≤ 1000000000
structure QFit (q : QU) : Prop where
  ne : q.elems.length ≤ 1000
  nc : q.conds.length ≤ 1000
  e : ∀ x ∈ q.elems, x.var.size ≤ 1000000
  c : ∀ x ∈ q.conds, CnFit x
  w : q.window ≤ 9223372036854775807
/-- What holds between two elements. -/
def PeRel (N : Nat) (w : World) (b : Nat) (l : List EL) (gh : Nat) (v2 v20 : Value) (wr : World) : Prop :=
  ∃ i : Nat, v2 = .string ⟨#[]⟩ ∧ v20 = .int .i64 (i : Int) ∧ i ≤ l.length ∧ gh = l.length - i ∧ (l.take i).all elOk = true ∧ Bu N b (elsT (l.take i)) wr ∧ KP N b w wr ∧ (elsT (l.take i)).length ≤ i * 2000000
def PcRel (N : Nat) (w : World) (b : Nat) (bs : List UInt8) (l : List CN) (gh : Nat) (v2 v35 : Value) (wr : World) : Prop :=
  ∃ i : Nat, v2 = .string ⟨#[]⟩ ∧ v35 = .int .i64 (i : Int) ∧ i ≤ l.length ∧ gh = l.length - i ∧ (l.take i).all cnOk = true ∧ Bu N b (bs ++ cnsT (l.take i)) wr ∧ KP N b w wr ∧ (cnsT (l.take i)).length ≤ i * 3000000000
theorem els_cells {w : World} {base g cap : Nat} {l : List EL} (ho : w.ownsRow base 43 4 (.slice (some ⟨g, 0, none⟩) l.length cap) l.length (elsC l)) {i : Nat} {c : EL} (hc : l[i]? = some c) :
    w.cell? ⟨g, i * 4, none⟩ = some (.int .i64 (c.type : Int)) ∧ w.cell? ⟨g, i * 4 + 1, none⟩ = some (.string c.var) ∧ w.cell? ⟨g, i * 4 + 2, none⟩ = some (.bool c.plus) ∧ w.cell? ⟨g, i * 4 + 3, none⟩ = some (.bool c.not) := by
  have key : ∀ (l : List EL) (i : Nat), l[i]? = some c → ∀ j, j < 4 → (elsC l)[i * 4 + j]? = c.cells[j]? := by
    intro l
    induction l with
    | nil => intro i h; simp at h
    | cons d l ih =>
      intro i h j hj
      have e : elsC (d :: l) = d.cells ++ elsC l := by simp [elsC]
      have hl : d.cells.length = 4 := rfl
      rw [e]
      cases i with
      | zero =>
        simp at h
        subst h
        rw [List.getElem?_append_left (by rw [hl]; omega), Nat.zero_mul, Nat.zero_add]
      | succ i =>
        rw [List.getElem?_cons_succ] at h
        rw [List.getElem?_append_right (by rw [hl]; omega), hl, show (i + 1) * 4 + j - 4 = i * 4 + j by omega]
        exact ih i h j hj
  have hi := (List.getElem?_eq_some_iff.1 hc).1
  refine ⟨?_, ?_, ?_, ?_⟩
  · have := ho.cellAt (i * 4 + 0) (by omega)
    rw [Nat.add_zero] at this
    exact this.trans ((key l i hc 0 (by omega)).trans rfl)
  · exact (ho.cellAt (i * 4 + 1) (by omega)).trans ((key l i hc 1 (by omega)).trans rfl)
  · exact (ho.cellAt (i * 4 + 2) (by omega)).trans ((key l i hc 2 (by omega)).trans rfl)
  · exact (ho.cellAt (i * 4 + 3) (by omega)).trans ((key l i hc 3 (by omega)).trans rfl)
theorem elT_len (e : EL) : (elT e).length ≤ e.var.size + 4 := by
  have hx : e.var.data.toList.length = e.var.size := by rw [Array.length_toList]; rfl
  unfold elT
  simp only [List.length_append, List.length_cons, List.length_nil]
  have h1 : (if e.not then ([33] : List UInt8) else []).length ≤ 1 := by split <;> simp
  have h2 : (if e.plus then ([43] : List UInt8) else []).length ≤ 1 := by split <;> simp
  omega
theorem holds_len (k : Nat) : (holdsT.getD k ⟨#[]⟩).data.toList.length ≤ 2 := by
  match k with
  | 0 => decide
  | 1 => decide
  | 2 => decide
  | 3 => decide
  | 4 => decide
  | 5 => decide
  | k + 6 => exact Nat.zero_le _
theorem cnT_len (c : CN) (h : CnFit c) : (cnT c).length ≤ 2000000010 := by
  have h1 : (flat ((sumT c.left).getD [])).length ≤ 1000000000 := by
    cases hs : sumT c.left with
    | none => simp [flat]
    | some ts => exact h.s.1 ts hs
  have h2 : (flat ((sumT c.right).getD [])).length ≤ 1000000000 := by
    cases hs : sumT c.right with
    | none => simp [flat]
    | some ts => exact h.s.2 ts hs
  have h3 := holds_len (c.op - 1).toNat
  unfold cnT
  simp only [List.length_append, List.length_cons, List.length_nil]
  omega
theorem els_snoc {l : List EL} {i : Nat} {e : EL} (h : l[i]? = some e) : l.take (i + 1) = l.take i ++ [e] ∧ elsT (l.take (i + 1)) = elsT (l.take i) ++ (if i = 0 then seqB else comB).data.toList ++ elT e := by
  have hi := (List.getElem?_eq_some_iff.1 h).1
  have e1 : l.take (i + 1) = l.take i ++ [e] := by rw [List.take_add_one, h]; rfl
  refine ⟨e1, ?_⟩
  unfold elsT
  rw [e1, List.map_append, List.map_cons, List.map_nil, catT_snoc, List.length_map, List.length_take]
  simp only [Nat.zero_add, Nat.min_eq_left (Nat.le_of_lt hi)]
  by_cases h0 : i = 0
  · rw [if_pos h0, if_pos h0]
  · rw [if_neg h0, if_neg h0]
theorem cns_snoc {l : List CN} {i : Nat} {e : CN} (h : l[i]? = some e) : l.take (i + 1) = l.take i ++ [e] ∧ cnsT (l.take (i + 1)) = cnsT (l.take i) ++ (if i = 0 then whB else andB).data.toList ++ cnT e := by
  have hi := (List.getElem?_eq_some_iff.1 h).1
  have e1 : l.take (i + 1) = l.take i ++ [e] := by rw [List.take_add_one, h]; rfl
  refine ⟨e1, ?_⟩
  unfold cnsT
  rw [e1, List.map_append, List.map_cons, List.map_nil, catT_snoc, List.length_map, List.length_take]
  simp only [Nat.zero_add, Nat.min_eq_left (Nat.le_of_lt hi)]
  by_cases h0 : i = 0
  · rw [if_pos h0, if_pos h0]
  · rw [if_neg h0, if_neg h0]
theorem ahead_len (i : Nat) (a b : ByteArray) (ha : a.data.toList.length ≤ 10) (hb : b.data.toList.length ≤ 10) : (if i = 0 then a else b).data.toList.length ≤ 10 := by split <;> assumption
theorem size_len (s : ByteArray) : s.data.toList.length = s.size := by rw [Array.length_toList]; rfl
theorem all_bad {α : Type} {f : α → Bool} {l : List α} {i : Nat} {x : α} (h : l[i]? = some x) (hx : f x = false) : l.all f = false := by
  rw [List.all_eq_false]
  exact ⟨x, List.mem_of_getElem? h, by rw [hx]; decide⟩
/-- What stays while a query is printed. -/
structure PQ (w W : World) (b qb : Nat) (El : List EL) (C : List CN) (ea : Option Addr) (ec : Nat) (ca : Option Addr) (cc : Nat) (xs : List Value) (q : QU) : Prop where
  t0 : Turn (fun _ => False) w W
  bx : Blk W w.heap.size 30
  r : W.rangeAt w.heap.size 0 [.slice ea El.length ec, .slice ca C.length cc, .int .i64 (q.window : Int), .bool q.byKey]
  nb : w.heap.size ≠ b
  ev : W.ownsRow qb 43 4 (.slice ea El.length ec) El.length (elsC El)
  xo : W.ownsRow qb 47 3 (.slice ca C.length cc) C.length xs
  xs : ∀ k c, C[k]? = some c → ∃ lv rv, xs[k * 3]? = some (.int .i64 c.op) ∧ xs[k * 3 + 1]? = some lv ∧ xs[k * 3 + 2]? = some rv ∧ cdsV qb c.left W lv ∧ cdsV qb c.right W rv
  eg : 0 < El.length → ∃ g, ea = some ⟨g, 0, none⟩
  cg : 0 < C.length → ∃ g, ca = some ⟨g, 0, none⟩
  f : QFit q
  e : ErrAt W
  t : TabAt W
  h3 : 5 ≤ w.heap.size
  bb : Blk W b 70
  q : q = ⟨El, C, q.window, q.byKey⟩
theorem PQ.end_ {w W W' : World} {b qb : Nat} {El : List EL} {C : List CN} {ea : Option Addr} {ec : Nat} {ca : Option Addr} {cc : Nat} {xs : List Value} {q : QU} (h : PQ w W b qb El C ea ec ca cc xs q) (k : KP w.heap.size b W W') : Turn (fun _ => False) w W' :=
  h.t0.comp (show Turn _ _ _ from k) (fun j hj q => by have := q.1; omega)
theorem below_quiet {w W W' : World} (T : Turn (fun _ => False) w W) (h : Below w.heap.size W W') : Turn (fun _ => False) w W' :=
  ⟨h.os.trans T.os, h.tape.trans T.tape, h.output.trans T.output, Nat.le_trans T.size h.size, fun k hk hn => (h.block k hk).trans (T.block k hk hn)⟩
set_option maxRecDepth 100000 in
set_option maxHeartbeats 4000000 in
theorem print_is (w : World) {qb : Nat} {q : QU} {x : Value} (hq : quV qb q w x) (hf : QFit q) (hE : ErrAt w) (hT : TabAt w) :
    Calls Tryz.prog 13 #[x] w fun y w' => y = .returned (.string (printT q)) ∧ Turn (fun _ => False) w w' := by
  obtain ⟨ev, cv, rfl, hev, hcv⟩ := hq
  obtain ⟨ea, ec, rfl, heg⟩ := own_slice hev
  obtain ⟨xs, hxo, hxs⟩ := hcv
  obtain ⟨ca, cc, rfl, hcg⟩ := own_slice hxo
  obtain ⟨El, C, wd, bk⟩ := q
  dsimp only at hev hxo hxs heg hcg hf ⊢
  unfold quL
  have hne := hf.ne
  have hnc := hf.nc
  have hew := hf.w
  dsimp only at hne hnc hew
  obtain ⟨b, hb⟩ : ∃ b, b = w.heap.size + 1 := ⟨_, rfl⟩
  obtain ⟨W, hW⟩ : ∃ W, W = (w.alloc (.cells #[.slice ea El.length ec, .slice ca C.length cc, .int .i64 (wd : Int), .bool bk] 30)).alloc (.cells #[.pointer none, .slice none 0 0] 70) := ⟨_, rfl⟩
  have T0 : Turn (fun _ => False) w W := by rw [hW]; exact ((Turn.refl _ _).alloc _).alloc _
  have R : W.rangeAt w.heap.size 0 [.slice ea El.length ec, .slice ca C.length cc, .int .i64 (wd : Int), .bool bk] := by rw [hW]; exact range_turn (range_new w [.slice ea El.length ec, .slice ca C.length cc, .int .i64 (wd : Int), .bool bk] 30) ((Turn.refl (fun _ => False) _).alloc _) id
  have BX : Blk W w.heap.size 30 := by rw [hW]; exact (Blk.new w [.slice ea El.length ec, .slice ca C.length cc, .int .i64 (wd : Int), .bool bk] 30).turn ((Turn.refl (fun _ => False) _).alloc _) id
  have B0 : Bu w.heap.size b [] W := by
    have := Bu.new (B := w.heap.size) (w.alloc (.cells #[.slice ea El.length ec, .slice ca C.length cc, .int .i64 (wd : Int), .bool bk] 30))
    rw [World.size_alloc] at this
    rw [hW, hb]
    exact this.resolve_right (by omega)
  have d0 : W.cell? ⟨w.heap.size, 0, none⟩ = some (.slice ea El.length ec) := R 0 _ rfl
  have d1 : W.cell? ⟨w.heap.size, 1, none⟩ = some (.slice ca C.length cc) := R 1 _ rfl
  have d2 : W.cell? ⟨w.heap.size, 2, none⟩ = some (.int .i64 (wd : Int)) := R 2 _ rfl
  have d3 : W.cell? ⟨w.heap.size, 3, none⟩ = some (.bool bk) := R 3 _ rfl
  have nb : w.heap.size ≠ b := by omega
  have h3 : 5 ≤ w.heap.size := hT.1
  have HK := Lib.hid (show PQ w W b qb El C ea ec ca cc xs ⟨El, C, wd, bk⟩ from ⟨T0, BX, R, nb, own_turn hev T0 (fun _ _ => id), own_turn hxo T0 (fun _ _ => id), fun k c hk => by
    obtain ⟨lv, rv, a, b', c', e, f⟩ := hxs k c hk
    exact ⟨lv, rv, a, b', c', e.turn T0 (fun _ _ => id), f.turn T0 (fun _ _ => id)⟩, heg, hcg, hf, hE.turn T0 id, hT.turn T0 (fun _ _ => id), h3, B0.blk.1, rfl⟩)
  have HW := Lib.hid hW
  obtain ⟨r, hr⟩ : ∃ r, r = printT ⟨El, C, wd, bk⟩ := ⟨_, rfl⟩
  rw [← hr]
  have HR := Lib.hid hr
  have n0 : decide ((wd : Int) < 0) = false := decide_eq_false (by omega)
  have HBQ := Lib.hid hb
  have PE0 := Lib.hid (show PeRel w.heap.size W b El El.length (.string ⟨#[]⟩) (.int .i64 0) W from ⟨0, rfl, rfl, Nat.zero_le _, rfl, rfl, B0, KP.refl, Nat.le_refl _⟩)
  clear T0 BX R nb hev hxo hxs heg hcg hf hE hT hW hr B0 hb h3
  by_cases h0 : El.length = 0
  · have u1 : ((El.length : Int) == 0) = true := beq_yes (by omega)
    have hrr : r = ⟨#[]⟩ := by
      rw [HR.out]
      unfold printT printOk
      have : El = [] := List.eq_nil_of_length_eq_zero h0
      simp [this]
    subst hrr
    clear h0
    go_enter Tryz.func13, Tryz.ntmps13
    go_upto_region 2 with fail
    rw [← HW.out]
    clear HW
    go_wp2_with fail
    go_ret
    exact ⟨rfl, HK.out.t0⟩
  · have u1 : ((El.length : Int) == 0) = false := beq_no (by omega)
    have HL0 := Lib.hid h0
    clear h0
    go_enter Tryz.func13, Tryz.ntmps13
    go_upto_region 2 with fail
    rw [← HW.out]
    clear HW
    rw [← HBQ.out]
    go_wp2_with fail
    clear d0 d1 d2 d3
    go_loopg [2, 20] El.length (fun gh v2 v20 wr => PeRel w.heap.size W b El gh v2 v20 wr)
    case atStart => exact PE0.out
    case round =>
      clear PE0
      obtain ⟨i, rfl, rfl, hi, hg, hall, hbu, hkp, hln⟩ := hrel
      by_cases hin : i < El.length
      · have u2 : decide ((i : Int) < (El.length : Int)) = true := decide_eq_true (by omega)
        have i0 : (0 : Int) ≤ (i : Int) := Int.natCast_nonneg i
        have i1 : (i : Int) < (El.length : Int) := by omega
        obtain ⟨e, hc⟩ : ∃ e, El[i]? = some e := ⟨_, List.getElem?_eq_getElem hin⟩
        obtain ⟨g, rfl⟩ := HK.out.eg (by omega)
        obtain ⟨q0, q1, q2, q3⟩ := els_cells (hkp.row HK.out.ev (by decide) HK.out.bb (by decide)) hc
        obtain ⟨W1, hW1⟩ : ∃ X, X = wr.alloc (.cells #[.int .i64 (e.type : Int), .string e.var, .bool e.plus, .bool e.not] 43) := ⟨_, rfl⟩
        have T1 : Turn (fun _ => False) wr W1 := by rw [hW1]; exact (Turn.refl _ _).alloc _
        have R1 : W1.rangeAt wr.heap.size 0 (elL e.type e.var e.plus e.not) := by rw [hW1]; exact range_new wr (elL e.type e.var e.plus e.not) 43
        have BX1 : Blk W1 wr.heap.size 43 := by rw [hW1]; exact Blk.new wr (elL e.type e.var e.plus e.not) 43
        have d0 := R1 0 _ rfl
        have d1 := R1 1 _ rfl
        have d2 := R1 2 _ rfl
        have d3 := R1 3 _ rfl
        have hev := HK.out.f.e e (by have := List.mem_of_getElem? hc; have hq := HK.out.q; exact this)
        have nb1 : wr.heap.size ≠ b := by have := hbu.blk.1.lt; omega
        have hsn := els_snoc hc
        obtain ⟨hdt, hhdt⟩ : ∃ t, t = (if i = 0 then seqB else comB) := ⟨_, rfl⟩
        have hdl : hdt.data.toList.length ≤ 10 := by rw [hhdt]; exact ahead_len i _ _ (by decide) (by decide)
        have AH := Lib.hid (ahead_is W1 i seqB comB)
        rw [← hhdt] at AH hsn
        have WS := Lib.hid (ws_is hdt (hbu.quiet T1) (by rw [← size_len]; have := HK.out.f.ne; dsimp only at this; omega) (Nat.le_trans HK.out.t0.size (Nat.le_trans hkp.size T1.size)))
        have F1 := Lib.hid (And.intro (hkp.trans (KP.quiet T1)) (And.intro BX1 (And.intro nb1 (And.intro hin (And.intro hall (And.intro hln (And.intro hsn (And.intro hdl (And.intro hc (And.intro hg hev))))))))))
        have HW1 := Lib.hid hW1
        clear hW1 T1 R1 BX1 nb1 hin hall hln hsn hhdt hdl hc hg hbu hkp hi hev
        go_upto_region 7 with fail
        rw [← HW1.out]
        clear HW1 q0 q1 q2 q3
        go_wp2_with fail
        with_reducible refine AH.out.mono ?_
        rintro y W2 ⟨rfl, rfl⟩
        go_wp2_with fail
        with_reducible refine WS.out.mono ?_
        rintro y W3 ⟨rfl, B3, K3⟩
        replace d0 := K3.cell F1.out.2.1 (by decide) F1.out.2.2.1 d0
        replace d1 := K3.cell F1.out.2.1 (by decide) F1.out.2.2.1 d1
        replace d2 := K3.cell F1.out.2.1 (by decide) F1.out.2.2.1 d2
        replace d3 := K3.cell F1.out.2.1 (by decide) F1.out.2.2.1 d3
        have K3' := F1.out.1.trans K3
        have PL := Lib.hid (pel_is W3 e B3 (Nat.le_trans HK.out.t0.size K3'.size) F1.out.2.2.2.2.2.2.2.2.2.2 (by have := F1.out.2.2.2.2.2.1; have := F1.out.2.2.2.2.2.2.2.1; have := F1.out.2.2.2.1; have := HK.out.f.ne; rw [List.length_append]; dsimp only at *; omega) (K3'.err HK.out.h3 HK.out.e))
        unfold EL.cells elL at PL
        have F3 := Lib.hid K3'
        clear B3 K3 K3' WS AH
        go_wp2_with fail
        with_reducible refine PL.out.mono ?_
        rintro y W4 ⟨rfl, B4, K4⟩
        cases hok : elOk e with
        | false =>
          have hrr : r = ⟨#[]⟩ := by
            rw [HR.out]
            unfold printT printOk
            rw [all_bad F1.out.2.2.2.2.2.2.2.2.1 hok]
            simp
          subst hrr
          have F4 := Lib.hid (HK.out.end_ (F3.out.trans K4))
          clear B4 K4 hok
          go_wp2_with fail
          go_ret
          exact ⟨rfl, F4.out⟩
        | true =>
          rw [hok, if_pos rfl] at B4
          have hw0 : wrap64 ((i : Int) + 1) = (i : Int) + 1 := by have := F1.out.2.2.2.1; have := HK.out.f.ne; dsimp only at this; unfold wrap64; omega
          have REL2 := Lib.hid (show PeRel w.heap.size W b El (El.length - (i + 1)) (.string ⟨#[]⟩) (.int .i64 ((i : Int) + 1)) W4 from ⟨i + 1, rfl, rfl, F1.out.2.2.2.1, rfl, by rw [F1.out.2.2.2.2.2.2.1.1, List.all_append, F1.out.2.2.2.2.1]; simp [hok], by rw [F1.out.2.2.2.2.2.2.1.2]; exact B4, F3.out.trans K4, by
            rw [F1.out.2.2.2.2.2.2.1.2, List.length_append, List.length_append]
            have := F1.out.2.2.2.2.2.1
            have := F1.out.2.2.2.2.2.2.2.1
            have := elT_len e
            have := F1.out.2.2.2.2.2.2.2.2.2.2
            omega⟩)
          obtain ⟨zi, hzi⟩ : ∃ z : Int, z = (i : Int) + 1 := ⟨_, rfl⟩
          rw [← hzi] at REL2
          have hw : wrap64 ((i : Int) + 1) = zi := hw0.trans hzi.symm
          have HZI := Lib.hid hzi
          clear hzi hw0 B4 K4 hok
          go_wp2_with fail
          go_roundg (El.length - (i + 1))
          case measure => have := F1.out.2.2.2.1; have := F1.out.2.2.2.2.2.2.2.2.2.1; omega
          case rel => first | exact REL2.out | (rw [hw]; exact REL2.out) | (rw [← HZI.out]; exact REL2.out)
      · have u2 : decide ((i : Int) < (El.length : Int)) = false := decide_eq_false (by omega)
        have hil : i = El.length := by omega
        subst hil
        rw [List.take_length] at hall hbu hln
        have d1 := hkp.cell HK.out.bx (by decide) HK.out.nb (HK.out.r 1 _ rfl)
        have PC0 := Lib.hid (show PcRel w.heap.size W b (elsT El) C C.length (.string ⟨#[]⟩) (.int .i64 0) wr from ⟨0, rfl, rfl, Nat.zero_le _, rfl, rfl, by simpa [cnsT, catT] using hbu, hkp, Nat.le_refl _⟩)
        have HE := Lib.hid (And.intro hall hln)
        clear hi hg hall hbu hkp hln hin
        go_wp2_with fail
        clear d1
        go_loopg [2, 35] C.length (fun gh v2 v35 wq => PcRel w.heap.size W b (elsT El) C gh v2 v35 wq)
        case atStart => exact PC0.out
        case round =>
          clear PC0
          obtain ⟨j, rfl, rfl, hi, hg, hall, hbu, hkp, hln⟩ := hrel
          by_cases hin : j < C.length
          · have u3 : decide ((j : Int) < (C.length : Int)) = true := decide_eq_true (by omega)
            have j0 : (0 : Int) ≤ (j : Int) := Int.natCast_nonneg j
            have j1 : (j : Int) < (C.length : Int) := by omega
            obtain ⟨c, hc⟩ : ∃ e, C[j]? = some e := ⟨_, List.getElem?_eq_getElem hin⟩
            obtain ⟨g, rfl⟩ := HK.out.cg (by omega)
            obtain ⟨lv, rv, z0, z1, z2, hlv, hrv⟩ := HK.out.xs j c hc
            obtain ⟨la, lc, rfl, -⟩ := own_slice hlv
            obtain ⟨ra, rc, rfl, -⟩ := own_slice hrv
            have hxo := hkp.row HK.out.xo (by decide) HK.out.bb (by decide)
            have q0 : wr.cell? ⟨g, j * 3, none⟩ = some (.int .i64 c.op) := by
              have := hxo.cellAt (j * 3 + 0) (by omega)
              rw [Nat.add_zero] at this
              exact this.trans z0
            have q1 : wr.cell? ⟨g, j * 3 + 1, none⟩ = some (.slice la c.left.length lc) := (hxo.cellAt (j * 3 + 1) (by omega)).trans z1
            have q2 : wr.cell? ⟨g, j * 3 + 2, none⟩ = some (.slice ra c.right.length rc) := (hxo.cellAt (j * 3 + 2) (by omega)).trans z2
            obtain ⟨W1, hW1⟩ : ∃ X, X = wr.alloc (.cells #[.int .i64 c.op, .slice la c.left.length lc, .slice ra c.right.length rc] 47) := ⟨_, rfl⟩
            have T1 : Turn (fun _ => False) wr W1 := by rw [hW1]; exact (Turn.refl _ _).alloc _
            have R1 : W1.rangeAt wr.heap.size 0 [.int .i64 c.op, .slice la c.left.length lc, .slice ra c.right.length rc] := by rw [hW1]; exact range_new wr [.int .i64 c.op, .slice la c.left.length lc, .slice ra c.right.length rc] 47
            have BX1 : Blk W1 wr.heap.size 47 := by rw [hW1]; exact Blk.new wr [.int .i64 c.op, .slice la c.left.length lc, .slice ra c.right.length rc] 47
            have d0 := R1 0 _ rfl
            have d1 := R1 1 _ rfl
            have d2 := R1 2 _ rfl
            have hft := HK.out.f.c c (List.mem_of_getElem? hc)
            have nb1 : wr.heap.size ≠ b := by have := hbu.blk.1.lt; omega
            have hsn := cns_snoc hc
            obtain ⟨hdt, hhdt⟩ : ∃ t, t = (if j = 0 then whB else andB) := ⟨_, rfl⟩
            have hdl : hdt.data.toList.length ≤ 10 := by rw [hhdt]; exact ahead_len j _ _ (by decide) (by decide)
            have AH := Lib.hid (ahead_is W1 j whB andB)
            rw [← hhdt] at AH hsn
            have hnc2 := HK.out.f.nc
            have hne2 := HK.out.f.ne
            dsimp only at hnc2 hne2
            have hel := HE.out.2
            have WS := Lib.hid (ws_is hdt (hbu.quiet T1) (by rw [← size_len, List.length_append]; omega) (Nat.le_trans HK.out.t0.size (Nat.le_trans hkp.size T1.size)))
            have F1 := Lib.hid (And.intro (hkp.trans (KP.quiet T1)) (And.intro BX1 (And.intro nb1 (And.intro hin (And.intro hall (And.intro hln (And.intro hsn (And.intro hdl (And.intro hc (And.intro hg (And.intro hft (And.intro hlv hrv))))))))))))
            have HW1 := Lib.hid hW1
            clear hW1 T1 R1 BX1 nb1 hin hall hln hsn hhdt hdl hc hg hbu hkp hi hft hlv hrv hxo z0 z1 z2 hnc2 hne2 hel
            go_upto_region 14 with fail
            rw [← HW1.out]
            clear HW1 q0 q1 q2
            go_wp2_with fail
            with_reducible refine AH.out.mono ?_
            rintro y W2 ⟨rfl, rfl⟩
            go_wp2_with fail
            with_reducible refine WS.out.mono ?_
            rintro y W3 ⟨rfl, B3, K3⟩
            replace d0 := K3.cell F1.out.2.1 (by decide) F1.out.2.2.1 d0
            replace d1 := K3.cell F1.out.2.1 (by decide) F1.out.2.2.1 d1
            replace d2 := K3.cell F1.out.2.1 (by decide) F1.out.2.2.1 d2
            have K3' := F1.out.1.trans K3
            obtain ⟨hft, hlv, hrv⟩ := F1.out.2.2.2.2.2.2.2.2.2.2
            have PL := Lib.hid (pcond_is W3 c B3 (Nat.le_trans HK.out.t0.size K3'.size) HK.out.h3 (show cdsV qb c.left W3 _ from K3'.row hlv (by decide) HK.out.bb (by decide)) (show cdsV qb c.right W3 _ from K3'.row hrv (by decide) HK.out.bb (by decide)) hft.n hft.f (K3'.err HK.out.h3 HK.out.e) (K3'.tab HK.out.h3 HK.out.t) (by
              have := F1.out.2.2.2.2.2.1
              have := F1.out.2.2.2.2.2.2.2.1
              have := F1.out.2.2.2.1
              have := HK.out.f.nc
              have := HK.out.f.ne
              have := HE.out.2
              rw [List.length_append, List.length_append]
              dsimp only at *
              omega) ⟨fun ts q => Nat.le_trans (hft.s.1 ts q) (by decide), fun ts q => Nat.le_trans (hft.s.2 ts q) (by decide)⟩)
            have F3 := Lib.hid K3'
            clear B3 K3 K3' WS AH hft hlv hrv
            go_wp2_with fail
            with_reducible refine PL.out.mono ?_
            rintro y W4 ⟨rfl, K4, B4⟩
            cases hok : cnOk c with
            | false =>
              have hrr : r = ⟨#[]⟩ := by
                rw [HR.out]
                unfold printT printOk
                rw [show (List.all C cnOk) = false from all_bad F1.out.2.2.2.2.2.2.2.2.1 hok]
                simp
              subst hrr
              have F4 := Lib.hid (HK.out.end_ (F3.out.trans K4))
              clear B4 K4 hok
              go_wp2_with fail
              go_ret
              exact ⟨rfl, F4.out⟩
            | true =>
              replace B4 := B4 hok
              have hw0 : wrap64 ((j : Int) + 1) = (j : Int) + 1 := by have := F1.out.2.2.2.1; have := HK.out.f.nc; dsimp only at this; unfold wrap64; omega
              have REL2 := Lib.hid (show PcRel w.heap.size W b (elsT El) C (C.length - (j + 1)) (.string ⟨#[]⟩) (.int .i64 ((j : Int) + 1)) W4 from ⟨j + 1, rfl, rfl, F1.out.2.2.2.1, rfl, by rw [F1.out.2.2.2.2.2.2.1.1, List.all_append, F1.out.2.2.2.2.1]; simp [hok], by rw [F1.out.2.2.2.2.2.2.1.2]; exact bu_one B4 (by simp), F3.out.trans K4, by
                rw [F1.out.2.2.2.2.2.2.1.2, List.length_append, List.length_append]
                have := F1.out.2.2.2.2.2.1
                have := F1.out.2.2.2.2.2.2.2.1
                have := cnT_len c F1.out.2.2.2.2.2.2.2.2.2.2.1
                omega⟩)
              obtain ⟨zi, hzi⟩ : ∃ z : Int, z = (j : Int) + 1 := ⟨_, rfl⟩
              rw [← hzi] at REL2
              have hw : wrap64 ((j : Int) + 1) = zi := hw0.trans hzi.symm
              have HZI := Lib.hid hzi
              clear hzi hw0 B4 K4 hok
              go_wp2_with fail
              go_roundg (C.length - (j + 1))
              case measure => have := F1.out.2.2.2.1; have := F1.out.2.2.2.2.2.2.2.2.2.1; omega
              case rel => first | exact REL2.out | (rw [hw]; exact REL2.out) | (rw [← HZI.out]; exact REL2.out)
          · have u3 : decide ((j : Int) < (C.length : Int)) = false := decide_eq_false (by omega)
            have hil : j = C.length := by omega
            subst hil
            rw [List.take_length] at hall hbu hln
            have hnc2 := HK.out.f.nc
            have hne2 := HK.out.f.ne
            dsimp only at hnc2 hne2
            have hel := HE.out.2
            have hBw : w.heap.size ≤ wr.heap.size := Nat.le_trans HK.out.t0.size hkp.size
            have WS := Lib.hid (ws_is wiB hbu (by rw [List.length_append]; show _ + 8 ≤ _; omega) hBw)
            have d2 := hkp.cell HK.out.bx (by decide) HK.out.nb (HK.out.r 2 _ rfl)
            have d3 := hkp.cell HK.out.bx (by decide) HK.out.nb (HK.out.r 3 _ rfl)
            have BXr : Blk wr w.heap.size 30 := Blk.turn HK.out.bx (show Turn _ _ _ from hkp) (hkp.off HK.out.bx (by decide) HK.out.nb)
            have F1 := Lib.hid (And.intro hkp (And.intro BXr (And.intro hall (And.intro hln hBw))))
            clear hi hg hall hbu hkp hln hin BXr hnc2 hne2 hel hBw
            go_wp2_with fail
            with_reducible refine WS.out.mono ?_
            rintro y W3 ⟨rfl, B3, K3⟩
            replace d2 := K3.cell F1.out.2.1 (by decide) HK.out.nb d2
            replace d3 := K3.cell F1.out.2.1 (by decide) HK.out.nb d3
            have K3' := F1.out.1.trans K3
            have IT := Lib.hid (Tryz.strconv_Itoa (wd : Int) (by omega) (by have := HK.out.f.w; dsimp only at this; omega) W3 (K3'.tab HK.out.h3 HK.out.t).2)
            have BX3 : Blk W3 w.heap.size 30 := Blk.turn F1.out.2.1 (show Turn _ _ _ from K3) (K3.off F1.out.2.1 (by decide) HK.out.nb)
            have F3 := Lib.hid (And.intro B3 (And.intro K3' BX3))
            clear B3 K3 K3' WS BX3
            go_wp2_with fail
            with_reducible refine IT.out.mono ?_
            rintro y W4 ⟨rfl, ki, os, rfl⟩
            have T4 := grow_turn W3 ki os
            obtain ⟨W4, hW4⟩ : ∃ X, X = Sort.grow (W3.drewN ki) os := ⟨_, rfl⟩
            rw [← hW4] at T4 ⊢
            clear hW4
            have d3 := T4.cell id d3
            have K4 := F3.out.2.1.trans (KP.quiet T4)
            have BX4 := F3.out.2.2.turn T4 id
            have hil := Lib.itoa_length_le (wd : Int) (by omega) (by have := HK.out.f.w; dsimp only at this; omega)
            have hnc2 := HK.out.f.nc
            have hne2 := HK.out.f.ne
            dsimp only at hnc2 hne2
            have hel := HE.out.2
            have hln := F1.out.2.2.2.1
            have WS2 := Lib.hid (ws_is ⟨(Lib.itoa (wd : Int)).toArray⟩ (F3.out.1.quiet T4) (by
              rw [List.length_append, List.length_append]
              have e8 : ([32, 119, 105, 116, 104, 105, 110, 32] : List UInt8).length = 8 := rfl
              have e9 : (⟨(Lib.itoa (wd : Int)).toArray⟩ : ByteArray).size = (Lib.itoa (wd : Int)).length := by rw [← size_len]
              omega) (Nat.le_trans (Nat.le_trans HK.out.t0.size F3.out.2.1.size) T4.size))
            have F4 := Lib.hid (And.intro K4 (And.intro BX4 (And.intro hil (And.intro hln (And.intro hel (And.intro hnc2 hne2))))))
            clear T4 K4 BX4 hil hnc2 hne2 hel hln d2
            go_wp2_with fail
            with_reducible refine WS2.out.mono ?_
            rintro y W5 ⟨rfl, B5, K5⟩
            have d3 := K5.cell F4.out.2.1 (by decide) HK.out.nb d3
            have F5 := Lib.hid (And.intro B5 (F4.out.1.trans K5))
            have HTX := Lib.hid (show printOk ⟨El, C, wd, bk⟩ = true by
              unfold printOk
              dsimp only
              rw [HE.out.1, F1.out.2.2.1]
              have : El ≠ [] := fun q => HL0.out (by rw [q]; rfl)
              simp [this])
            clear B5 K5 WS2
            cases bk with
            | false =>
              have ST := Lib.hid (str_is F5.out.1 (Nat.le_trans HK.out.t0.size F5.out.2.size))
              go_wp2_with fail
              with_reducible refine ST.out.mono ?_
              rintro y W6 ⟨rfl, L6⟩
              have FE := Lib.hid (below_quiet (HK.out.end_ F5.out.2) L6)
              clear L6
              go_wp2_with fail
              go_ret
              refine ⟨?_, FE.out⟩
              rw [HR.out]
              unfold printT
              rw [if_pos HTX.out]
              simp
            | true =>
              have W6S := Lib.hid (ws_is byB F5.out.1 (by
                have := F4.out.2.2.1
                have := F4.out.2.2.2.1
                have := F4.out.2.2.2.2.1
                have := F4.out.2.2.2.2.2.1
                have := F4.out.2.2.2.2.2.2
                have e8 : ([32, 119, 105, 116, 104, 105, 110, 32] : List UInt8).length = 8 := rfl
                have e9 : (⟨(Lib.itoa (wd : Int)).toArray⟩ : ByteArray).data.toList.length = (Lib.itoa (wd : Int)).length := by simp
                have e7 : byB.size = 7 := rfl
                rw [List.length_append, List.length_append, List.length_append]
                omega) (Nat.le_trans HK.out.t0.size F5.out.2.size))
              go_wp2_with fail
              with_reducible refine W6S.out.mono ?_
              rintro y W6 ⟨rfl, B6, K6⟩
              have F6 := Lib.hid (And.intro B6 (F5.out.2.trans K6))
              clear B6 K6
              have ST := Lib.hid (str_is F6.out.1 (Nat.le_trans HK.out.t0.size F6.out.2.size))
              go_wp2_with fail
              with_reducible refine ST.out.mono ?_
              rintro y W7 ⟨rfl, L7⟩
              have FE := Lib.hid (below_quiet (HK.out.end_ F6.out.2) L7)
              clear L7
              go_wp2_with fail
              go_ret
              refine ⟨?_, FE.out⟩
              rw [HR.out]
              unfold printT
              rw [if_pos HTX.out]
              simp
end Go.Proofs.YtadogobdlcionaaGreatDoor
namespace Go.Proofs.YtadogobdlcionaaGreatDoor
open Go.ChangeShapes Go.WideShapes Go.ChangeAt Go.RowKit Go.Shelf
set_option linter.unusedVariables false
abbrev exA : ByteArray := ⟨#[115, 101, 113, 32, 65, 32, 97, 44, 66, 43, 98, 32, 119, 104, 101, 114, 101, 32, 40, 97, 46, 120, 41, 45, 49, 60, 35, 98, 32, 119, 105, 116, 104, 105, 110, 32, 53]⟩
abbrev exB : ByteArray := ⟨#[115, 101, 113, 32, 65]⟩
abbrev exP : ByteArray := ⟨#[115, 101, 113, 32, 65, 32, 97, 44, 32, 66, 43, 32, 98, 32, 119, 104, 101, 114, 101, 32, 97, 46, 120, 32, 45, 32, 49, 32, 60, 32, 35, 98, 32, 119, 105, 116, 104, 105, 110, 32, 53]⟩
def exQ : QU := ⟨[⟨0, ⟨#[97]⟩, false, false⟩, ⟨1, ⟨#[98]⟩, true, false⟩], [⟨3, [⟨7, 0, ⟨#[97]⟩, 0⟩, ⟨6, 1, ⟨#[]⟩, 0⟩, ⟨2, 0, ⟨#[]⟩, 0⟩], [⟨8, 0, ⟨#[98]⟩, 0⟩]⟩], 5, false⟩
set_option maxRecDepth 100000 in
theorem parse_a : parseB exA = (exQ, 37, 0) := by kernel_rfl
set_option maxRecDepth 100000 in
theorem parse_b : parseB exB = (zq, 5, 11) := by kernel_rfl
theorem digits_small {u : Nat} (h : u < 10) : Lib.itoa (u : Int) = [UInt8.ofNat (48 + u)] := by
  unfold Lib.itoa
  rw [if_neg (by omega), Int.toNat_natCast, Lib.decDigits, dif_pos h]
theorem itoa1 : Lib.itoa 1 = [49] := digits_small (u := 1) (by decide)
theorem itoa5 : Lib.itoa 5 = [53] := digits_small (u := 5) (by decide)
set_option maxRecDepth 100000 in
theorem leaf1 : leafT ⟨6, 1, ⟨#[]⟩, 0⟩ = ⟨#[49]⟩ := by
  unfold leafT
  rw [if_pos rfl]
  dsimp only
  rw [itoa1]
theorem names_a : nameT ⟨#[97]⟩ = true := by kernel_rfl
theorem names_b : nameT ⟨#[98]⟩ = true := by kernel_rfl
set_option maxRecDepth 100000 in
theorem sum_l : sumT [⟨7, 0, ⟨#[97]⟩, 0⟩, ⟨6, 1, ⟨#[]⟩, 0⟩, ⟨2, 0, ⟨#[]⟩, 0⟩] = some [⟨#[97, 46, 120]⟩, ⟨#[32, 45, 32]⟩, ⟨#[49]⟩] := by
  have n1 : needsT ⟨7, 0, ⟨#[97]⟩, 0⟩ = (0, true) := by kernel_rfl
  have n2 : needsT ⟨6, 1, ⟨#[]⟩, 0⟩ = (0, true) := by kernel_rfl
  have n3 : needsT ⟨2, 0, ⟨#[]⟩, 0⟩ = (2, true) := by kernel_rfl
  have l1 : leafT ⟨7, 0, ⟨#[97]⟩, 0⟩ = ⟨#[97, 46, 120]⟩ := by kernel_rfl
  have e1 : stepT [] ⟨7, 0, ⟨#[97]⟩, 0⟩ = some [([⟨#[97, 46, 120]⟩], 2)] := by unfold stepT; rw [n1, l1]; rfl
  have e2 : stepT [([⟨#[97, 46, 120]⟩], 2)] ⟨6, 1, ⟨#[]⟩, 0⟩ = some [([⟨#[97, 46, 120]⟩], 2), ([⟨#[49]⟩], 2)] := by unfold stepT; rw [n2, leaf1]; rfl
  have e3 : stepT [([⟨#[97, 46, 120]⟩], 2), ([⟨#[49]⟩], 2)] ⟨2, 0, ⟨#[]⟩, 0⟩ = some [([⟨#[97, 46, 120]⟩, ⟨#[32, 45, 32]⟩, ⟨#[49]⟩], 0)] := by unfold stepT; rw [n3]; kernel_rfl
  unfold sumT
  simp only [foldT, e1, e2, e3]
theorem sum_r : sumT [⟨8, 0, ⟨#[98]⟩, 0⟩] = some [⟨#[35, 98]⟩] := by kernel_rfl
set_option maxRecDepth 100000 in
theorem fit_a : QFit exQ := by
  refine ⟨by decide, by decide, fun x hx => ?_, fun x hx => ?_, by decide⟩
  · simp only [exQ, List.mem_cons, List.not_mem_nil, or_false] at hx
    rcases hx with rfl | rfl <;> decide
  · simp only [exQ, List.mem_cons, List.not_mem_nil, or_false] at hx
    subst hx
    refine ⟨by decide, ⟨fun d hd => ?_, fun d hd => ?_⟩, ⟨fun ts q => ?_, fun ts q => ?_⟩⟩
    · simp only [List.mem_cons, List.not_mem_nil, or_false] at hd
      rcases hd with rfl | rfl | rfl <;> exact ⟨by decide, by decide, by decide⟩
    · simp only [List.mem_cons, List.not_mem_nil, or_false] at hd
      subst hd
      exact ⟨by decide, by decide, by decide⟩
    · dsimp only at q
      rw [sum_l] at q
      injection q with q
      subst q
      decide
    · dsimp only at q
      rw [sum_r] at q
      injection q with q
      subst q
      decide
set_option maxRecDepth 100000 in
theorem print_a : printT exQ = exP := by
  have ok : printOk exQ = true := by
    unfold printOk exQ
    dsimp only
    have e1 : elOk ⟨0, ⟨#[97]⟩, false, false⟩ = true := by kernel_rfl
    have e2 : elOk ⟨1, ⟨#[98]⟩, true, false⟩ = true := by kernel_rfl
    have c1 : cnOk ⟨3, [⟨7, 0, ⟨#[97]⟩, 0⟩, ⟨6, 1, ⟨#[]⟩, 0⟩, ⟨2, 0, ⟨#[]⟩, 0⟩], [⟨8, 0, ⟨#[98]⟩, 0⟩]⟩ = true := by
      unfold cnOk
      dsimp only
      rw [sum_l, sum_r]
      rfl
    simp only [List.all_cons, List.all_nil, e1, e2, c1]
    rfl
  unfold printT
  rw [if_pos ok]
  have cn : cnsT exQ.conds = [32, 119, 104, 101, 114, 101, 32, 97, 46, 120, 32, 45, 32, 49, 32, 60, 32, 35, 98] := by
    unfold cnsT exQ cnT
    simp only [List.map_cons, List.map_nil, sum_l, sum_r]
    kernel_rfl
  rw [cn]
  have w5 : Lib.itoa ((exQ.window : Nat) : Int) = [53] := itoa5
  rw [w5]
  rfl
set_option maxRecDepth 100000 in
set_option maxHeartbeats 4000000 in
theorem awake_is (w : World) (hE : ErrAt w) (hT : TabAt w) : Calls Tryz.prog 6 #[] w fun y w' => y = .returned (.bool true) ∧ Turn (fun _ => False) w w' := by
  have PA1 := Lib.hid (parse_is w exA (by decide) hE)
  rw [parse_a] at PA1
  dsimp only at PA1
  have HE := Lib.hid (And.intro hE hT)
  clear hE hT
  go_enter Tryz.func6, Tryz.ntmps6
  go_wp2_with fail
  with_reducible refine PA1.out.mono ?_
  rintro y w1 ⟨x, rfl, hx, T1⟩
  obtain ⟨ev, cv, rfl, hev, hcv⟩ := id hx
  obtain ⟨ea, ec, rfl, -⟩ := own_slice hev
  obtain ⟨ca, cc, rfl⟩ : ∃ a c, cv = .slice a exQ.conds.length c := by
    obtain ⟨xs, ho, -⟩ := hcv
    obtain ⟨a, c, h, -⟩ := own_slice ho
    exact ⟨a, c, h⟩
  obtain ⟨w2, hw2⟩ : ∃ X, X = w1.alloc (.cells #[.slice ea exQ.elems.length ec, .slice ca exQ.conds.length cc, .int .i64 (exQ.window : Int), .bool exQ.byKey] 30) := ⟨_, rfl⟩
  have T2 : Turn (fun _ => False) w1 w2 := by rw [hw2]; exact (Turn.refl _ _).alloc _
  have R2 : w2.rangeAt w1.heap.size 0 (quL (.slice ea exQ.elems.length ec) (.slice ca exQ.conds.length cc) exQ.window exQ.byKey) := by rw [hw2]; exact range_new w1 (quL (.slice ea exQ.elems.length ec) (.slice ca exQ.conds.length cc) exQ.window exQ.byKey) 30
  have PB1 := Lib.hid (parse_is w2 exB (by decide) (HE.out.1.turn (T1.trans T2) id))
  rw [parse_b] at PB1
  dsimp only at PB1
  have F2 := Lib.hid (And.intro hx (And.intro (T1.trans T2) (And.intro R2 T2)))
  have HW2 := Lib.hid hw2
  clear hx hev hcv T1 T2 R2 hw2
  unfold quL
  go_upto_region 2 with fail
  rw [← HW2.out]
  clear HW2
  go_wp2_with fail
  with_reducible refine PB1.out.mono ?_
  rintro y w3 ⟨x, rfl, hz, T3⟩
  obtain ⟨e2, c2, rfl, he2, hc2⟩ := hz
  obtain ⟨e2a, e2c, rfl, -⟩ := own_slice he2
  obtain ⟨c2a, c2c, rfl⟩ : ∃ a c, c2 = .slice a zq.conds.length c := by
    obtain ⟨xs, ho, -⟩ := hc2
    obtain ⟨a, c, h, -⟩ := own_slice ho
    exact ⟨a, c, h⟩
  obtain ⟨w4, hw4⟩ : ∃ X, X = w3.alloc (.cells #[.slice e2a zq.elems.length e2c, .slice c2a zq.conds.length c2c, .int .i64 (zq.window : Int), .bool zq.byKey] 30) := ⟨_, rfl⟩
  have T4 : Turn (fun _ => False) w3 w4 := by rw [hw4]; exact (Turn.refl _ _).alloc _
  have R4 := range_turn F2.out.2.2.1 (T3.trans T4) id
  have d0 := R4 0 _ rfl
  have d1 := R4 1 _ rfl
  have d2 := R4 2 _ rfl
  have d3 := R4 3 _ rfl
  have TT := F2.out.2.1.trans (T3.trans T4)
  have hq4 : quV w.heap.size exQ w4 (.agg (quL (.slice ea exQ.elems.length ec) (.slice ca exQ.conds.length cc) exQ.window exQ.byKey).toArray) := by
    obtain ⟨ev, cv, hv, hev, hcv⟩ := F2.out.1
    exact ⟨ev, cv, hv, own_turn hev (F2.out.2.2.2.trans (T3.trans T4)) (fun _ _ => id), hcv.turn (F2.out.2.2.2.trans (T3.trans T4)) (fun _ _ => id)⟩
  have PR := Lib.hid (print_is w4 hq4 fit_a (HE.out.1.turn TT id) (HE.out.2.turn TT (fun _ _ => id)))
  rw [print_a] at PR
  unfold quL at PR
  have F4 := Lib.hid TT
  have HW4 := Lib.hid hw4
  clear hw4 T3 T4 R4 TT hq4 he2 hc2
  unfold quL
  go_upto_region 3 with fail
  rw [← HW4.out]
  clear HW4
  go_wp2_with fail
  with_reducible refine PR.out.mono ?_
  rintro y w5 ⟨rfl, T5⟩
  have F5 := Lib.hid (F4.out.trans T5)
  clear T5
  go_wp2_with fail
  go_ret
  exact ⟨rfl, F5.out⟩
end Go.Proofs.YtadogobdlcionaaGreatDoor
