/-
  What a roll tells is what the document says: the walk of tells, of layer 15.
-/
import Derived.Test.YtbpcocobimdcnaaRzT
import Derived.Test.YtbpcocobimdcnaaRq
import Derived.Test.YtbpcocobimdcnaaRy
namespace Go.Proofs.Ytbpcocobimdcnaa
open Go.ChangeShapes Go.WideShapes Go.ChangeAt Go.RowKit
set_option linter.unusedVariables false

def ezero : EV := ⟨0, 0, .slice none 0 0, 0, none⟩
def Fnd (L : List EV) (x : Int) (e : EV) (ok : Bool) : Prop := (ok = false ∧ e = ezero ∧ ∀ q ∈ L, q.id ≠ x) ∨ (ok = true ∧ ∃ q ∈ L, q.id = x ∧ e.key = q.key)
theorem find_u {w : World} {p : Option Addr} {L : List EV} (h : RollS w p L) (x : Int) :
    Calls Try.prog 15 #[.pointer p, .int .i64 x] w fun en w' => Turn (fun _ => False) w w' ∧ ∃ e ok, en = .returned (.tuple #[e.val, .bool ok]) ∧ PlainTab 0 w' e.cs e.o ∧ Fnd L x e ok := by
  refine (find_is h x).mono ?_
  rintro en w' ⟨T, ⟨rfl, hno⟩ | ⟨e, cs', he, hx, rfl, hp⟩⟩
  · exact ⟨T, ezero, false, rfl, rfl, .inl ⟨rfl, rfl, hno⟩⟩
  · exact ⟨T, ⟨e.id, e.till, cs', e.win, e.o⟩, true, rfl, hp, .inr ⟨rfl, e, he, hx, rfl⟩⟩
theorem rFind_u {w : World} {v : Value} {l : List EV} (h : ERow w v l) (ht : TabsAt w l) (x : Int) :
    Calls Try.prog 24 #[v, .int .i64 x] w fun en w' => Turn (fun _ => False) w w' ∧ ∃ e ok, en = .returned (.tuple #[e.val, .bool ok]) ∧ PlainTab 0 w' e.cs e.o ∧ Fnd l x e ok := by
  refine (rFind_is h ht x).mono ?_
  rintro en w' ⟨T, ⟨rfl, hno⟩ | ⟨e, he, hx, rfl⟩⟩
  · exact ⟨T, ezero, false, rfl, rfl, .inl ⟨rfl, rfl, hno⟩⟩
  · exact ⟨T, e, true, rfl, (ht e he).turn T, .inr ⟨rfl, e, he, hx, rfl⟩⟩
theorem SameL.mem {ys xs : List EV} (h : SameL ys xs) {y : EV} (hy : y ∈ ys) : ∃ x ∈ xs, y.key = x.key := by
  have : y.key ∈ xs.map EV.key := by
    rw [← h]
    exact List.mem_map_of_mem hy
  obtain ⟨x, hx, e⟩ := List.mem_map.1 this
  exact ⟨x, hx, e.symm⟩
theorem SameL.symm {ys xs : List EV} (h : SameL ys xs) : SameL xs ys := Eq.symm h
theorem key_id {a b : EV} (h : a.key = b.key) : a.id = b.id ∧ a.till = b.till ∧ a.win = b.win ∧ a.o = b.o := by
  simpa only [EV.key, Prod.mk.injEq] using h
theorem Sorted.uniq {l : List EV} (h : Sorted l) {a b : EV} (ha : a ∈ l) (hb : b ∈ l) (e : a.id = b.id) : a = b := by
  obtain ⟨i, hi⟩ := List.getElem?_of_mem ha
  obtain ⟨j, hj⟩ := List.getElem?_of_mem hb
  rcases Nat.lt_trichotomy i j with q | q | q
  · have := h.lt hi hj q
    omega
  · subst q
    rw [hi] at hj
    injection hj
  · have := h.lt hj hi q
    omega
theorem fnd_same {L l : List EV} {x : Int} {e f : EV} {ok ok' : Bool} (hs : SameL L l) (hL : Sorted L) (h1 : Fnd L x e ok) (h2 : Fnd l x f ok') : ok = ok' ∧ e.key = f.key := by
  rcases h1 with ⟨rfl, rfl, hno⟩ | ⟨rfl, q, hq, hqx, hk⟩
  · rcases h2 with ⟨rfl, rfl, _⟩ | ⟨rfl, q, hq, hqx, hk⟩
    · exact ⟨rfl, rfl⟩
    · obtain ⟨y, hy, hyk⟩ := hs.symm.mem hq
      exact absurd ((key_id hyk).1.symm.trans hqx) (hno y hy)
  · rcases h2 with ⟨rfl, rfl, hno⟩ | ⟨rfl, q', hq', hqx', hk'⟩
    · obtain ⟨y, hy, hyk⟩ := hs.mem hq
      exact absurd ((key_id hyk).1.symm.trans hqx) (hno y hy)
    · obtain ⟨y, hy, hyk⟩ := hs.symm.mem hq'
      have : q = y := hL.uniq hq hy (by rw [hqx, ← (key_id hyk).1, hqx'])
      subst this
      exact ⟨rfl, (hk.trans hyk.symm).trans hk'.symm⟩
theorem SameL.filter {L l : List EV} (h : SameL L l) (at_ : Int) : SameL (L.filter (livesAt at_)) (l.filter (livesAt at_)) := by
  induction L generalizing l with
  | nil =>
    cases l with
    | nil => rfl
    | cons x l => cases h
  | cons y L ih =>
    cases l with
    | nil => cases h
    | cons x l =>
      unfold SameL at h
      simp only [List.map_cons, List.cons.injEq] at h
      have k := key_id h.1
      have hl : livesAt at_ y = livesAt at_ x := by simp only [livesAt, k.1, k.2.1]
      have := ih h.2
      unfold SameL at this ⊢
      simp only [List.filter_cons, hl]
      split
      · simp only [List.map_cons, h.1, this]
      · exact this
theorem SameL.trans {a b c : List EV} (h : SameL a b) (k : SameL b c) : SameL a c := Eq.trans h k
/-- A roll, and the document's, side by side. -/
structure Pr (w : World) (p : Option Addr) (L : List EV) (v : Value) (l : List EV) : Prop where
  rs : RollS w p L
  row : ERow w v l
  tabs : TabsAt w l
  same : SameL L l
theorem Pr.turn {w w' : World} {p : Option Addr} {L : List EV} {v : Value} {l : List EV} (h : Pr w p L v l) (t : Turn (fun _ => False) w w') : Pr w' p L v l := ⟨h.rs.turn t, h.row.turn t, h.tabs.turn t, h.same⟩
def TRel (w : World) (gh : Nat) (v7 : Value) (wr : World) : Prop := ∃ n : Int, v7 = .int .i64 n ∧ -2 ≤ n ∧ n ≤ 14 ∧ (gh : Int) = 14 - n ∧ Turn (fun _ => False) w wr
set_option maxRecDepth 100000 in
set_option maxHeartbeats 2000000 in
theorem tells_is {w : World} {p : Option Addr} {L : List EV} {v : Value} {l : List EV} (h : Pr w p L v l) (at_ : Int) :
    Calls Try.prog 14 #[.pointer p, v, .int .i64 at_] w fun e w' => e = .returned (.bool true) ∧ Turn (fun _ => False) w w' := by
  obtain ⟨a, c, rfl, _⟩ := own_slice h.row.own
  have H := Lib.hid h
  have R0 : TRel w 16 (.int .i64 (-2)) w := ⟨-2, rfl, by omega, by omega, rfl, Turn.refl _ _⟩
  clear h
  go_enter Try.func14, Try.ntmps14
  go_wp2_with fail
  go_loopg [7] 16 (fun gh v7 wr => TRel w gh v7 wr)
  case atStart => exact R0
  case round =>
    clear R0
    obtain ⟨n, rfl, hn1, hn2, hgh, T⟩ := hrel
    by_cases hlt : n < 14
    · have u1 : decide (n < 14) = true := by simpa using hlt
      have S := Lib.hid (And.intro hgh T)
      clear hgh T
      go_upto_if 22 with fail
      go_cut [8] (fun v8 wx => (∃ k : Int, v8 = .int .i64 k) ∧ wx = wr)
      case first =>
        by_cases hn : n = -2
        · have u2 : (n == -2) = true := by simpa using hn
          clear hn
          go_wp2_with fail
          go_meet
          case rel => exact ⟨⟨_, rfl⟩, rfl⟩
        · have u2 : (n == -2) = false := by simpa using hn
          clear hn
          go_wp2_with fail
          go_meet
          case rel => exact ⟨⟨_, rfl⟩, rfl⟩
      case rest =>
      obtain ⟨⟨k, rfl⟩, rfl⟩ := hcut
      have LV := Lib.hid (rLive_is (H.out.row.turn S.out.2) (H.out.tabs.turn S.out.2) k)
      go_wp2_with fail
      with_reducible refine LV.out.mono ?_
      rintro en w2 ⟨v2, rfl, ho2, T2⟩
      obtain ⟨a2, c2, rfl, _⟩ := own_slice ho2
      have S2 := Lib.hid (And.intro ho2 (S.out.2.trans T2))
      have LA := Lib.hid (live_anyT (H.out.rs.turn S2.out.2) k)
      have hfl : (l.filter (livesAt k)).length ≤ 1000 := Nat.le_trans (List.length_filter_le _ _) H.out.row.lt
      obtain ⟨m, hm⟩ : ∃ m, (l.filter (livesAt k)).length = m := ⟨_, rfl⟩
      have HM := Lib.hid hm
      rw [hm] at hfl ⊢
      clear LV ho2 T2 hm
      go_wp2_with fail
      with_reducible refine LA.out.mono ?_
      rintro en w3 ⟨v3, ys, rfl, hs3, ho3, ht3, b3⟩
      have T3 : Turn (fun _ => False) w2 w3 := Turn.of_below b3
      obtain ⟨a3, c3, rfl, _⟩ := own_slice ho3
      have SQ := Lib.hid (sameRows_is ho3 (own_turn S2.out.1 T3 (fun _ _ f => f)) ht3 (fun e he => ((H.out.tabs e (List.mem_filter.1 he).1).turn S2.out.2).turn T3) (hs3.trans (H.out.same.filter k)) (by rw [HM.out]; exact hfl))
      have S3 := Lib.hid (S2.out.2.trans T3)
      rw [HM.out] at SQ
      generalize ys.length = m3 at *
      clear LA ho3 ht3 b3 T3 hs3
      go_wp2_with fail
      with_reducible refine SQ.out.mono ?_
      rintro en w4 ⟨rfl, T4⟩
      have S4 := Lib.hid (S3.out.trans T4)
      have FU := Lib.hid (find_u (H.out.rs.turn S4.out) k)
      clear SQ T4 S3
      go_wp2_with fail
      with_reducible refine FU.out.mono ?_
      rintro en w5 ⟨T5, e, ok, rfl, hp5, hf5⟩
      have S5 := Lib.hid (And.intro (S4.out.trans T5) (And.intro hp5 hf5))
      obtain ⟨ea, en, ec, hec⟩ := plain_slice hp5
      obtain ⟨eid, etill, ecs, ewin, eo⟩ := e
      dsimp only at hec
      subst hec
      unfold EV.val
      dsimp only
      have TA : Turn (fun _ => False) w5 (w5.alloc (.cells #[.int .i64 eid, .int .i64 etill, .slice ea en ec, .int .i64 ewin, .bool false] 48)) := (Turn.refl _ w5).alloc _
      have A := World.cell?_alloc_new w5 #[.int .i64 eid, .int .i64 etill, .slice ea en ec, .int .i64 ewin, .bool false] 48
      have FR := Lib.hid (rFind_u (H.out.row.turn (S5.out.1.trans TA)) (H.out.tabs.turn (S5.out.1.trans TA)) k)
      obtain ⟨W5, hW5⟩ : ∃ W5, W5 = w5.alloc (.cells #[.int .i64 eid, .int .i64 etill, .slice ea en ec, .int .i64 ewin, .bool false] 48) := ⟨_, rfl⟩
      have ST5 := Lib.hid (show Turn (fun _ => False) w5 W5 from by rw [hW5]; exact TA)
      rw [← hW5] at A FR
      clear FU T5 hp5 hf5 TA S4
      go_wp2_with fail
      rw [← hW5]
      clear hW5
      generalize w5.heap.size = b5 at *
      with_reducible refine FR.out.mono ?_
      rintro en' w6 ⟨T6, f, ok', rfl, hp6, hf6⟩
      obtain ⟨rfl, hkey⟩ := fnd_same H.out.same H.out.rs.srt S5.out.2.2 hf6
      obtain ⟨k1, k2, k3, k4⟩ := key_id hkey
      obtain ⟨fa, fn, fc, hfc⟩ := plain_slice hp6
      obtain ⟨fid, ftill, fcs, fwin, fo⟩ := f
      dsimp only at hfc k1 k2 k3 k4 hp6
      subst hfc k1 k2 k3 k4
      unfold EV.val
      dsimp only
      have TB : Turn (fun _ => False) w6 (w6.alloc (.cells #[.int .i64 eid, .int .i64 etill, .slice fa fn fc, .int .i64 ewin, .bool false] 48)) := (Turn.refl _ w6).alloc _
      have B := World.cell?_alloc_new w6 #[.int .i64 eid, .int .i64 etill, .slice fa fn fc, .int .i64 ewin, .bool false] 48
      obtain ⟨W6, hW6⟩ : ∃ W6, W6 = w6.alloc (.cells #[.int .i64 eid, .int .i64 etill, .slice fa fn fc, .int .i64 ewin, .bool false] 48) := ⟨_, rfl⟩
      rw [← hW6] at TB B
      have A0 : W6.cell? ⟨b5, 0, none⟩ = some (.int .i64 eid) := TB.cell (fun f => f) (T6.cell (fun f => f) (A 0))
      have A1 : W6.cell? ⟨b5, 1, none⟩ = some (.int .i64 etill) := TB.cell (fun f => f) (T6.cell (fun f => f) (A 1))
      have A2 : W6.cell? ⟨b5, 2, none⟩ = some (.slice ea en ec) := TB.cell (fun f => f) (T6.cell (fun f => f) (A 2))
      have A3 : W6.cell? ⟨b5, 3, none⟩ = some (.int .i64 ewin) := TB.cell (fun f => f) (T6.cell (fun f => f) (A 3))
      have A4 : W6.cell? ⟨b5, 4, none⟩ = some (.bool false) := TB.cell (fun f => f) (T6.cell (fun f => f) (A 4))
      have B0 : W6.cell? ⟨w6.heap.size, 0, none⟩ = some (.int .i64 eid) := B 0
      have B1 : W6.cell? ⟨w6.heap.size, 1, none⟩ = some (.int .i64 etill) := B 1
      have B2 : W6.cell? ⟨w6.heap.size, 2, none⟩ = some (.slice fa fn fc) := B 2
      have B3 : W6.cell? ⟨w6.heap.size, 3, none⟩ = some (.int .i64 ewin) := B 3
      have B4 : W6.cell? ⟨w6.heap.size, 4, none⟩ = some (.bool false) := B 4
      have ST := Lib.hid (sameTab_is (win := ewin) (((S5.out.2.1.turn ST5.out).turn T6).turn TB) (hp6.turn TB))
      have S6 := Lib.hid (((S5.out.1.trans ST5.out).trans T6).trans TB)
      clear A B TB T6 hp6 hf6 hkey S5 ST5 FR
      go_upto_region 11 with fail
      rw [← hW6]
      clear hW6
      generalize w6.heap.size = b6 at *
      go_wp2_with fail
      with_reducible refine ST.out.mono ?_
      rintro en'' w7 ⟨rfl, T7⟩
      have A0 := T7.cell (fun f => f) A0
      have A1 := T7.cell (fun f => f) A1
      have B0 := T7.cell (fun f => f) B0
      have B1 := T7.cell (fun f => f) B1
      have S7 := Lib.hid (S6.out.trans T7)
      have LN := Lib.hid (len_any (H.out.rs.turn S7.out) k)
      have hll : (L.filter (livesAt k)).length = m := by rw [(H.out.same.filter k).len, HM.out]
      rw [hll] at LN
      clear A2 A3 A4 B2 B3 B4 T7 ST S6 hll
      have n1 : (eid != eid) = false := by simp
      have n2 : (etill != etill) = false := by simp
      have n3 : (ok != ok) = false := by simp
      have n4 : ((m : Int) != (m : Int)) = false := by simp
      go_wp2_with fail
      with_reducible refine LN.out.mono ?_
      rintro en3 w8 ⟨rfl, b8⟩
      have T8 : Turn (fun _ => False) w7 w8 := Turn.of_below b8
      have A0 := T8.cell (fun f => f) A0
      have A1 := T8.cell (fun f => f) A1
      have B0 := T8.cell (fun f => f) B0
      have B1 := T8.cell (fun f => f) B1
      have F := Lib.hid (show TRel w (14 - (n + 1)).toNat (.int .i64 (n + 1)) w8 from ⟨n + 1, rfl, by omega, by omega, by omega, S7.out.trans T8⟩)
      clear T8 b8 LN S7
      go_wp2_with fail
      go_roundg (14 - (n + 1)).toNat
      case measure => have := S.out.1; omega
      case rel => exact F.out
    · obtain rfl : n = 14 := by omega
      have F := Lib.hid T
      clear T hgh
      go_wp2
      go_ret
      exact ⟨rfl, F.out⟩
end Go.Proofs.Ytbpcocobimdcnaa
