/-
  RollMany: the walk.
-/
import Derived.Test.YtbpcocobimdcnaaRw
import Derived.Test.YtbpcocobimdcnaaRf
import Derived.WalkKit
import Derived.ProofKit
import Derived.OpenShut
import Derived.Deep.RegionHeld3
import Derived.Deep.DeepCutAuto
namespace Go.Proofs.Ytbpcocobimdcnaa
open Go.ChangeShapes Go.WideShapes Go.ChangeAt Go.RowKit
set_option linter.unusedVariables false

def IntArg (w : World) (a : Option Addr) (len : Nat) : Prop :=
  ∃ (b off : Nat) (X : Nat → Int), (len = 0 ∨ a = some ⟨b, off, none⟩) ∧ (∀ i, i < len → w.cell? ⟨b, off + i, none⟩ = some (.int .i64 (X i))) ∧ (0 < len → b < w.heap.size) ∧ len ≤ 9223372036854775807 ∧ ∀ i, i < len → (Lit.int .i64 (X i)).wf = true
def intsV (l : List Int) : List Value := l.map (fun x => .int .i64 x)
theorem info3 : (Try.prog.info? 3).map (fun i => (i.zero, i.size, i.bytes)) = some (some (.int .i64 0), 1, 8) := by kernel_rfl
theorem int_app {W WA : World} {base t n : Nat} {v : Value} {r : Int} {xs : List Value} (h : W.ownsRow base 3 1 v n xs) (hB : base ≤ W.heap.size) (hl : n ≤ 1000) (hb : Below W.heap.size W WA) (hc : WA.cell? ⟨t, 0, none⟩ = some (.int .i64 r)) :
    ∃ v' w', (Builtin.append_ #[43, 43] 43 #[v, .slice (some ⟨t, 0, none⟩) 1 1]).run Try.prog WA = .ok v' w' ∧ w'.ownsRow base 3 1 v' (n + 1) (xs ++ [.int .i64 r]) ∧ Turn (fun k => v.ownBlock = some k) W w' := by
  obtain ⟨i3, j1, j2, j3, j4⟩ := info_parts info3
  have hA := own_keep h (fun k hk => hb.block k (h.lt k hk).2)
  have hz := hb.size
  obtain ⟨v', w', hr, ho, hg, _⟩ := run_append_own WA base 43 43 3 i3 _ 1 8 Try.underlying43 j1 j2 j3 j4 rfl (by decide) v n xs hA ⟨t, 0, none⟩ 1 1 [.int .i64 r] rfl (fun j u hu => by
    rw [Go.WideShapes.add_plain, Nat.zero_add]
    match j, hu with
    | 0, hu => simp at hu; subst hu; exact hc
    | j + 1, hu => simp at hu) (fun u hu => by simp at hu; subst hu; rfl) (by unfold maxLen; omega) (by omega) (by omega)
  exact ⟨v', w', hr, ho, (Turn.of_below (S := fun k => v.ownBlock = some k) hb).trans ((Turn.refl _ WA).grown hg (fun k hk => .inl hk))⟩
theorem turn_fresh2 {w wr wa : World} {v : Value} {e : TypeId} {s m : Nat} {xs : List Value} (T : Turn (fun _ => False) w wr) (hr : wr.ownsRow w.heap.size e s v m xs) (T2 : Turn (fun k => v.ownBlock = some k) wr wa) : Turn (fun _ => False) w wa :=
  ⟨T2.os.trans T.os, T2.tape.trans T.tape, T2.output.trans T.output, Nat.le_trans T.size T2.size, fun k hk _ => (T2.block k (Nat.lt_of_lt_of_le hk T.size) (fun e => by have := (hr.lt k e).1; omega)).trans (T.block k hk id)⟩
theorem rolls_app {w2 w' : World} {p : Option Addr} {L : List EV} {v8 : Value} {i base : Nat} {xs : List Int} (S : RollS w2 p L) (ho : w2.ownsRow base 3 1 v8 i (intsV xs)) (h0 : v8 = .slice none 0 0 ∨ 1 ≤ i)
    (sep : ∀ e ∈ L, ∀ b n c, e.cs = .slice (some ⟨b, 0, none⟩) n c → v8.ownBlock ≠ some b) (t : Turn (fun k => v8.ownBlock = some k) w2 w') : RollS w' p L := by
  have hint : ∀ g, v8.ownBlock = some g → ∃ x : Int, w2.cell? ⟨g, 0, none⟩ = some (.int .i64 x) := fun g hg => by
    rcases h0 with rfl | h0
    · cases hg
    · rcases ho.2 with ⟨e, e2⟩ | ⟨g', cap, cur, e, _⟩
      · omega
      · rw [e] at hg
        obtain rfl : g' = g := by simpa [Value.ownBlock] using hg
        have hl := ho.1
        rw [e] at ho
        have := ho.cellAt 0 (by omega)
        have hx : xs.length = i * 1 := by simpa [intsV] using hl
        rw [show (intsV xs)[0]? = some (.int .i64 (xs[0]'(by omega))) by simp [intsV]] at this
        exact ⟨_, this⟩
  refine ⟨?_, S.srt, fun e he => ?_⟩
  · rcases S.at_ with h | ⟨r, v, rfl, hc, hr⟩
    · exact .inl h
    · obtain ⟨a, c, rfl, _⟩ := own_slice hr.own
      refine .inr ⟨r, _, rfl, t.cell (fun hg => ?_) hc, own_turn hr.own t (fun k hk hS => ?_), hr.lt⟩
      · obtain ⟨x, hx⟩ := hint r hg
        rw [hc] at hx
        cases hx
      · rcases hr.own.2 with ⟨e, _⟩ | ⟨g, cap, cur, e, _, hg, _⟩
        · rw [e] at hk
          cases hk
        · rw [e] at hk
          obtain rfl : g = k := by simpa [Value.ownBlock] using hk
          rcases ho.2 with ⟨e, _⟩ | ⟨g', cap', cur', e, _, hg', _⟩
          · rw [e] at hS
            cases hS
          · rw [e] at hS
            obtain rfl : g' = g := by simpa [Value.ownBlock] using hS
            rw [hg] at hg'
            injection hg' with hg'
            injection hg' with _ h2 _
            exact absurd h2 (by decide)
  · have hp := S.tabs e he
    have hs := sep e he
    obtain ⟨id, till, cs, win, o⟩ := e
    cases o with
    | none => exact hp
    | some x =>
      obtain ⟨cb, c, hB, rfl, c0, c1, c2, c3⟩ := hp
      have hn := hs cb _ _ rfl
      exact ⟨cb, c, hB, rfl, t.cell hn c0, t.cell hn c1, t.cell hn c2, t.cell hn c3⟩
structure MSt (w : World) (i : Nat) (id : Int) (p : Option Addr) (v8 : Value) (l : List EV) (wr : World) : Prop where
  rs : RollS wr p l
  len : l.length = i
  ent : ∀ (k : Nat) (e : EV), l[k]? = some e → e.till = -1 ∧ e.win = (k : Int) ∧ e.id ≤ id
  ids : wr.ownsRow w.heap.size 3 1 v8 i (intsV (l.map EV.id))
  st : v8 = .slice none 0 0 ∨ 1 ≤ i
  sep : ∀ e ∈ l, ∀ b n c, e.cs = .slice (some ⟨b, 0, none⟩) n c → v8.ownBlock ≠ some b
  tn : Turn (fun _ => False) w wr
theorem MSt.more {w wr w2 : World} {i r B : Nat} {id id' win : Int} {p : Option Addr} {v8 cs' : Value} {l : List EV} {x : Int} (h : MSt w i id p v8 l wr) (hi : i ≤ 40) (hid : id < id') (hw : win = i)
    (S : RollS w2 (some ⟨r, 0, none⟩) (l ++ [⟨id', -1, cs', win, some x⟩])) (T : Turn (fun _ => False) wr w2) (hB : wr.heap.size ≤ B) (P : PlainTab B w2 cs' (some x)) :
    ∃ a c w', (Builtin.append_ #[43, 43] 43 #[v8, .slice (some ⟨w2.heap.size, 0, none⟩) 1 1]).run Try.prog (w2.alloc (.cells #[.int .i64 id'] 3)) = .ok (.slice a (i + 1) c) w' ∧ MSt w (i + 1) id' (some ⟨r, 0, none⟩) (.slice a (i + 1) c) (l ++ [⟨id', -1, cs', win, some x⟩]) w' := by
  subst hw
  have ho2 := own_turn h.ids T (fun _ _ f => f)
  have hTw := h.tn.trans T
  have hbel : Below w2.heap.size w2 (w2.alloc (.cells #[.int .i64 id'] 3)) := (Below.refl _ w2).alloc (Nat.le_refl _) _
  have hcc : (w2.alloc (.cells #[.int .i64 id'] 3)).cell? ⟨w2.heap.size, 0, none⟩ = some (.int .i64 id') := World.cell?_alloc_new w2 #[.int .i64 id'] 3 0
  have sep2 : ∀ e ∈ l ++ [⟨id', -1, cs', i, some x⟩], ∀ b n c, e.cs = .slice (some ⟨b, 0, none⟩) n c → v8.ownBlock ≠ some b := fun e he b n c hc hb => by
    rcases List.mem_append.1 he with he | he
    · exact h.sep e he b n c hc hb
    · rw [List.mem_singleton.1 he] at hc
      obtain ⟨cb, c', hB', e1, _⟩ := P
      rw [e1] at hc
      cases hc
      have := (h.ids.lt b hb).2
      omega
  obtain ⟨v', w', hrun, hown, hT, hfr⟩ : ∃ v' w', (Builtin.append_ #[43, 43] 43 #[v8, .slice (some ⟨w2.heap.size, 0, none⟩) 1 1]).run Try.prog (w2.alloc (.cells #[.int .i64 id'] 3)) = .ok v' w' ∧ w'.ownsRow w.heap.size 3 1 v' (i + 1) (intsV (l.map EV.id) ++ [.int .i64 id']) ∧ Turn (fun k => v8.ownBlock = some k) w2 w' ∧ (i = 0 → ∀ g, v'.ownBlock = some g → w2.heap.size ≤ g) := by
    by_cases h0 : i = 0
    · have e8 : v8 = .slice none 0 0 := h.st.resolve_right (by omega)
      subst h0
      have hl0 : l = [] := List.eq_nil_of_length_eq_zero h.len
      subst hl0
      subst e8
      obtain ⟨v', w', q1, q2, q3⟩ := int_app (World.ownsRow_nil w2 w2.heap.size 3 1) (Nat.le_refl _) (by omega) hbel hcc
      exact ⟨v', w', q1, row_low q2 hTw.size, q3, fun _ g hg => (q2.lt g hg).1⟩
    · obtain ⟨v', w', q1, q2, q3⟩ := int_app ho2 hTw.size (by omega) hbel hcc
      exact ⟨v', w', q1, q2, q3, fun f => absurd f h0⟩
  have S' := rolls_app S ho2 h.st sep2 hT
  have e1 : intsV (l.map EV.id) ++ [.int .i64 id'] = intsV ((l ++ [(⟨id', -1, cs', (i : Int), some x⟩ : EV)]).map EV.id) := by simp [intsV]
  rw [e1] at hown
  obtain ⟨a, c, rfl, _⟩ := own_slice hown
  refine ⟨a, c, w', hrun, S', by simp [h.len], fun k e hk => ?_, hown, .inr (by omega), fun e he b n c' hc hb => ?_, turn_fresh2 hTw ho2 hT⟩
  · by_cases hkl : k < l.length
    · rw [List.getElem?_append_left hkl] at hk
      obtain ⟨q1, q2, q3⟩ := h.ent k e hk
      exact ⟨q1, q2, by omega⟩
    · rw [List.getElem?_append_right (by omega)] at hk
      have : k = l.length := by
        have := (List.getElem?_eq_some_iff.1 hk).1
        simp at this
        omega
      subst this
      simp at hk
      subst hk
      exact ⟨rfl, by rw [h.len], Int.le_refl _⟩
  · by_cases h0 : i = 0
    · have hg := hfr h0 b hb
      have hp := S.tabs e he
      obtain ⟨id1, till, cs, win, o⟩ := e
      dsimp only at hc hp
      subst hc
      cases o with
      | none => cases hp
      | some y =>
        obtain ⟨cb, c2, _, e3, c0, _⟩ := hp
        cases e3
        have : b < w2.heap.size := block_lt_of_cell c0
        omega
    · have hp := S'.tabs e he
      obtain ⟨id1, till, cs, win, o⟩ := e
      dsimp only at hc hp
      subst hc
      have hl := h.len
      cases o with
      | none => cases hp
      | some y =>
        obtain ⟨cb, c2, _, e3, c0, c1, _⟩ := hp
        cases e3
        obtain rfl : a = some ⟨b, 0, none⟩ := by
          rcases hown.2 with ⟨e, _⟩ | ⟨g, cap, cur, e, _⟩
          · cases e
          · cases e
            cases hb
            rfl
        have h1 := hown.cellAt 1 (by omega)
        have hz : ((l ++ [(⟨id', -1, cs', (i : Int), some x⟩ : EV)]).map EV.id).length = i + 1 := by simp [hl]
        rw [show (intsV ((l ++ [(⟨id', -1, cs', (i : Int), some x⟩ : EV)]).map EV.id))[1]? = some (.int .i64 (((l ++ [(⟨id', -1, cs', (i : Int), some x⟩ : EV)]).map EV.id)[1]'(by omega))) by unfold intsV; rw [List.getElem?_map, List.getElem?_eq_getElem (by omega)]; rfl] at h1
        rw [h1] at c1
        cases c1
theorem MSt.turn {w wr w2 : World} {i : Nat} {id : Int} {p : Option Addr} {v8 : Value} {l : List EV} (h : MSt w i id p v8 l wr) (T : Turn (fun _ => False) wr w2) : MSt w i id p v8 l w2 :=
  ⟨h.rs.turn T, h.len, h.ent, own_turn h.ids T (fun _ _ f => f), h.st, h.sep, h.tn.trans T⟩
def M1Rel (w : World) (n : Nat) (gh : Nat) (v6 v7 v8 v9 : Value) (wr : World) : Prop :=
  ∃ (i : Nat) (id : Int) (p : Option Addr) (l : List EV), v9 = .int .i64 (i : Int) ∧ v6 = .pointer p ∧ v7 = .int .i64 id ∧ i ≤ n ∧ gh = n - i ∧ -1 ≤ id ∧ id ≤ 9 * (i : Int) ∧ MSt w i id p v8 l wr
def M2Rel (w : World) (n : Nat) (id ask : Int) (p : Option Addr) (v8 : Value) (l : List EV) (gh : Nat) (v14 v15 : Value) (wr : World) : Prop :=
  ∃ k : Nat, v15 = .int .i64 (k : Int) ∧ k ≤ n ∧ gh = n - k ∧ v14 = .bool ((l.take k).any fun e => e.id == ask) ∧ MSt w n id p v8 l wr
set_option maxRecDepth 100000 in
set_option maxHeartbeats 4000000 in
theorem many_walk {a : Option Addr} {len cap : Nat} {ask : Int} {w : World} (hA : IntArg w a len) : Calls Try.prog 6 #[.slice a len cap, .int .i64 ask] w fun e w' => e = .returned (.bool true) ∧ Below w.heap.size w w' := by
  obtain ⟨b, off, X, had, hl, hb, hlen, _⟩ := hA
  have H0 := Lib.hid (roll_awake w)
  have KD := Lib.hid (fun w n => kind_is w n)
  obtain ⟨n, hn⟩ : ∃ n : Nat, min len 20 = n := ⟨_, rfl⟩
  have hn20 : n ≤ 20 := by omega
  have hnl : n ≤ len := by omega
  have HN := Lib.hid hn
  have AD := Lib.hid had
  have HL := Lib.hid hl
  clear hn had hl
  go_enter Try.func6, Try.ntmps6
  go_wp2_with fail
  refine H0.out.mono ?_
  rintro e w1 ⟨rfl, b1⟩
  have T1 : Turn (fun _ => False) w w1 := Turn.of_below b1
  have R0 : M1Rel w n n (.pointer none) (.int .i64 (-1)) (.slice none 0 0) (.int .i64 0) w1 :=
    ⟨0, -1, none, [], rfl, rfl, rfl, Nat.zero_le _, rfl, by omega, by omega, rollS_nil _, rfl, fun k e h => by simp at h, World.ownsRow_nil _ _ _ _, .inl rfl, fun e h => (by cases h), T1⟩
  clear b1 T1 H0
  go_wp2_with fail
  go_loopg [6, 7, 8, 9] n (fun gh v6 v7 v8 v9 wr => M1Rel w n gh v6 v7 v8 v9 wr)
  case atStart => exact R0
  case round =>
    clear R0
    have HI := Lib.hid (And.intro hn20 hnl)
    obtain ⟨i, id, p, l, rfl, rfl, rfl, hi, hg, hid0, hid1, hst⟩ := hrel
    obtain ⟨va, vc, rfl, hva⟩ := own_slice hst.ids
    by_cases hin : i < n
    · have S := Lib.hid (And.intro hst hg)
      clear hst hg
      have t1 : decide ((i : Int) < (len : Int)) = true := by simp; omega
      have t2 : decide ((i : Int) < 20) = true := by simp; omega
      obtain rfl := AD.out.resolve_left (by omega)
      obtain ⟨x, hx⟩ : ∃ x, X i = x := ⟨_, rfl⟩
      have x0 : wr.cell? ⟨b, off + i, none⟩ = some (.int .i64 x) := by
        rw [← hx]
        exact S.out.1.tn.cell (fun f => f) (HL.out i (by omega))
      have hi0 : (0 : Int) ≤ (i : Int) := by omega
      have hi1 : (i : Int) < (len : Int) := by omega
      clear hx
      go_upto_region 8 with fail
      go_cut [7] (fun v7 wx => (∃ id' : Int, v7 = .int .i64 id' ∧ id < id' ∧ id' ≤ id + 9) ∧ wx = wr)
      case first =>
        go_wp2_with fail
        go_meet
        case rel =>
          have u1 : -9 < x.tmod 9 := Int.lt_tmod_of_pos x (by omega)
          have u2 : x.tmod 9 < 9 := Int.tmod_lt_of_pos x (by omega)
          obtain ⟨y, hy⟩ : ∃ y, x.tmod 9 = y := ⟨_, rfl⟩
          rw [hy] at u1 u2 ⊢
          have e1 : wrap64 (y + 9) = y + 9 := by unfold wrap64; omega
          have e2 : (y + 9).tmod 9 = (y + 9) % 9 := Int.tmod_eq_emod_of_nonneg (by omega)
          rw [e1, e2]
          have e3 : wrap64 (id + 1 + (y + 9) % 9) = id + 1 + (y + 9) % 9 := by unfold wrap64; omega
          exact ⟨⟨_, rfl, by rw [e3]; omega, by rw [e3]; omega⟩, rfl⟩
      case rest =>
      obtain ⟨⟨id', rfl, hlt, hle⟩, rfl⟩ := hcut
      clear x0
      have K1 := Lib.hid (KD.out wc (i : Int))
      go_wp2_with fail
      with_reducible refine K1.out.mono ?_
      rintro e w2 ⟨cs, rfl, hp2, T2⟩
      have hp2 := hp2.low (Nat.zero_le _)
      obtain ⟨ca, cn, cc, rfl⟩ := plain_slice hp2
      have hlen' := S.out.1.len
      have A1 := Lib.hid (add_yes (x := id') (win := (i : Int)) (S.out.1.rs.turn T2) (by omega) (by omega) (fun e he => by
        obtain ⟨k, hk⟩ := List.getElem?_of_mem he
        have := (S.out.1.ent k e hk).2.2
        omega) hp2)
      have T2' := Lib.hid T2
      clear K1 hp2 T2
      go_wp2_with fail
      with_reducible refine A1.out.mono ?_
      rintro e w3 ⟨r, rfl, cs', S3, T3, P3⟩
      have K2 := Lib.hid (KD.out w3 (i : Int))
      have X3 := Lib.hid (And.intro S3 (And.intro (T2'.out.trans T3) (And.intro T2'.out.size P3)))
      clear A1 S3 T3 P3 T2'
      go_wp2_with fail
      with_reducible refine K2.out.mono ?_
      rintro e w4 ⟨cs2, rfl, hp4, T4⟩
      have hp4 := hp4.low (Nat.zero_le _)
      obtain ⟨ca2, cn2, cc2, rfl⟩ := plain_slice hp4
      have A2 := Lib.hid (add_no (x := id') (win := (i : Int)) (X3.out.1.at_.turn T4) hp4 (.inr ⟨l.length, ⟨id', -1, cs', (i : Int), some (i : Int)⟩, by simp, by simp, Int.le_refl _⟩))
      have T4' := Lib.hid T4
      clear K2 hp4 T4
      go_wp2_with fail
      with_reducible refine A2.out.mono ?_
      rintro e w5 ⟨rfl, T5⟩
      have T45 := T4'.out.trans T5
      obtain ⟨a', c', w6, hrun, hst6⟩ := S.out.1.more (id' := id') (by omega) hlt rfl (X3.out.1.turn T45) (X3.out.2.1.trans T45) X3.out.2.2.1 (X3.out.2.2.2.turn T45)
      have RUN := Lib.hid hrun
      have FIN := Lib.hid hst6
      clear A2 T4' T5 T45 hrun hst6
      go_wp2_with (refine rl_append_run (by rfl) _ _ _ (by rfl) (by rfl) (by rfl) RUN.out ?_)
      go_roundg (n - (i + 1))
      case rel => exact ⟨i + 1, id', some ⟨r, 0, none⟩, _, by go_num, rfl, rfl, by omega, rfl, by omega, by omega, FIN.out⟩
      case measure => have := S.out.2; omega
    · obtain rfl : i = n := by omega
      go_upto_region 6 with fail
      go_cut [28] (fun v28 wx => v28 = .bool false ∧ wx = wr)
      case first =>
        by_cases hc : i < len
        · have t1 : decide ((i : Int) < (len : Int)) = true := by simp; omega
          have t2 : decide ((i : Int) < 20) = false := by have := HN.out; simp; omega
          go_wp2_with fail
          go_meet
          case rel => exact ⟨rfl, rfl⟩
        · have t1 : decide ((i : Int) < (len : Int)) = false := by simp; omega
          go_wp2_with fail
          go_meet
          case rel => exact ⟨rfl, rfl⟩
      case rest =>
      obtain ⟨rfl, hwc⟩ := hcut
      subst hwc
      have R1 : M2Rel w i id ask p (.slice va i vc) l i (.bool false) (.int .i64 0) wc := ⟨0, rfl, Nat.zero_le _, rfl, by simp, hst⟩
      have hll := hst.len
      clear hst hg hi hin
      go_wp2_with fail
      go_loopg [14, 15] i (fun gh v14 v15 wr => M2Rel w i id ask p (.slice va i vc) l gh v14 v15 wr)
      case atStart => exact R1
      case round =>
        clear R1
        obtain ⟨k, rfl, hk, hgk, rfl, hst⟩ := hrel
        by_cases hki : k < i
        · obtain ⟨t, ht⟩ : ∃ t, (l.take k).any (fun e => e.id == ask) = t := ⟨_, rfl⟩
          rw [ht]
          obtain ⟨ek, hek⟩ : ∃ e, l[k]? = some e := ⟨_, List.getElem?_eq_getElem (by omega)⟩
          obtain ⟨g, rfl⟩ := hva (by omega)
          have y0 : wr.cell? ⟨g, k, none⟩ = some (.int .i64 ek.id) := (hst.ids.cellAt k (by omega)).trans (by unfold intsV; rw [List.getElem?_map, List.getElem?_map, hek]; rfl)
          obtain ⟨eid, etill, ecs, ewin, eo⟩ := ek
          dsimp only at y0
          obtain ⟨q1, q2, q3⟩ := hst.ent k _ hek
          dsimp only at q1 q2 q3
          subst q1
          subst q2
          have F := Lib.hid (find_is hst.rs eid)
          have S := Lib.hid (And.intro hst (And.intro hgk (And.intro ht (And.intro hek hk))))
          have hk0 : (0 : Int) ≤ (k : Int) := by omega
          have hk1 : (k : Int) < (i : Int) := by omega
          have hnx : (eid == ask) = decide (eid = ask) := rfl
          have hnew : (l.take (k + 1)).any (fun e => e.id == ask) = (t || eid == ask) := by
            rw [List.take_add_one, hek, List.any_append, ht]
            simp
          have HW := Lib.hid hnew
          clear hst hgk ht hek hk hll hva q3 hnx hnew
          go_wp2_with fail
          with_reducible refine F.out.mono ?_
          rintro e w2 ⟨T2, ⟨rfl, hno⟩ | ⟨e1, cs1, hm, hid, rfl, hp⟩⟩
          · exact absurd rfl (hno _ (List.mem_of_getElem? S.out.2.2.2.1))
          · obtain ⟨j, hj⟩ := List.getElem?_of_mem hm
            have hjk : j = k := by
              rcases Nat.lt_trichotomy j k with h | h | h
              · have := S.out.1.rs.srt.lt hj S.out.2.2.2.1 h
                dsimp only at this
                omega
              · exact h
              · have := S.out.1.rs.srt.lt S.out.2.2.2.1 hj h
                dsimp only at this
                omega
            obtain rfl := hjk.symm
            rw [S.out.2.2.2.1] at hj
            cases hj
            obtain ⟨ca, cn, cc, e3⟩ := plain_slice hp
            try dsimp only at e3
            subst e3
            unfold EV.val
            try dsimp only
            have y1 := T2.cell (fun f => f) y0
            have M2 := Lib.hid (S.out.1.turn T2)
            have MA := Lib.hid (fun (W : World) (T : Turn (fun _ => False) w2 W) => (S.out.1.turn T2).turn T)
            obtain ⟨W, hW⟩ : ∃ W, W = w2.alloc (.cells #[.int .i64 eid, .int .i64 (-1), .slice ca cn cc, .int .i64 (k : Int), .bool false] 48) := ⟨_, rfl⟩
            have TW : Turn (fun _ => False) w2 W := by rw [hW]; exact (Turn.refl _ w2).alloc _
            have zz : ∀ q, W.cell? ⟨w2.heap.size, q, none⟩ = #[.int .i64 eid, .int .i64 (-1), .slice ca cn cc, .int .i64 (k : Int), .bool false][q]? := fun q => by
              rw [hW]
              exact World.cell?_alloc_new w2 _ 48 q
            have z0 := zz 0
            have z1 := zz 1
            have z3 := zz 3
            simp only [List.getElem?_toArray, List.getElem?_cons_zero, List.getElem?_cons_succ] at z0 z1 z3
            have y2 := TW.cell (fun f => f) y1
            have n1 : (eid != eid) = false := by simp
            have n3 : ((k : Int) != (k : Int)) = false := by simp
            have M3 := Lib.hid (M2.out.turn TW)
            clear F y0 hm hid hp y1 zz M2 MA TW T2
            have rnd : ∀ u : Bool, u = (t || eid == ask) → M2Rel w i id ask p (.slice (some ⟨g, 0, none⟩) i vc) l (i - (k + 1)) (.bool u) (.int .i64 ((k + 1 : Nat) : Int)) W := fun u hu =>
              ⟨k + 1, rfl, by omega, rfl, by rw [HW.out, hu], M3.out⟩
            have RN := Lib.hid (fun (d : Nat) (u : Bool) (hu : u = (t || eid == ask)) => show M2Rel w i id ask p (.slice (some ⟨g, 0, none⟩) i vc) l (i - (k + 1)) (.bool u) (.int .i64 ((k + 1 : Nat) : Int)) (W.drewN d) from by
              obtain ⟨k', r1, r2, r3, r4, r5⟩ := rnd u hu
              exact ⟨k', r1, r2, r3, r4, r5.turn ((Turn.refl _ W).drewN d)⟩)
            clear rnd
            cases t with
            | true =>
              go_wp2_with fail
              rw [← hW]
              clear hW
              generalize w2.heap.size = eb at *
              go_quiet (fail)
              have R4 := Lib.hid (RN.out nq true (by simp))
              clear RN z0 z1 z3 y2
              generalize W.drewN nq = W4 at *
              clear nq
              go_wp2_with fail
              go_roundg (i - (k + 1))
              case rel => exact R4.out
              case measure => have := S.out.2.1; omega
            | false =>
              go_wp2_with fail
              rw [← hW]
              clear hW
              generalize w2.heap.size = eb at *
              go_quiet (fail)
              have R4 := Lib.hid (RN.out nq (eid == ask) (by simp))
              have y2 : (W.drewN nq).cell? ⟨g, k, none⟩ = some (.int .i64 eid) := y2
              clear RN z0 z1 z3
              generalize W.drewN nq = W4 at *
              clear nq
              go_wp2_with fail
              go_roundg (i - (k + 1))
              case rel => exact R4.out
              case measure => have := S.out.2.1; omega
        · obtain rfl : k = i := by omega
          have hlt : l.take k = l := List.take_of_length_le (by omega)
          rw [hlt]
          have F := Lib.hid (find_is hst.rs ask)
          have cnt : (l.filter (livesAt (id + 1))).length = k := by
            have : l.filter (livesAt (id + 1)) = l := List.filter_eq_self.2 fun e he => by
              obtain ⟨j, hj⟩ := List.getElem?_of_mem he
              obtain ⟨q1, _, q3⟩ := hst.ent j e hj
              unfold livesAt
              rw [q1]
              simp
              omega
            rw [this, hst.len]
          have LN := Lib.hid (fun (W : World) (T : Turn (fun _ => False) wr W) => len_any (hst.rs.turn T) (id + 1))
          have S := Lib.hid hst
          have CN := Lib.hid cnt
          clear hst hgk hlt cnt
          go_wp2_with fail
          with_reducible refine F.out.mono ?_
          rintro e w2 ⟨T2, hf⟩
          have FN := Lib.hid (show ∃ (cs : Value) (e : EV) (ok : Bool), True from ⟨.slice none 0 0, ⟨0, 0, .slice none 0 0, 0, none⟩, true, trivial⟩)
          obtain ⟨ok, i1, i2, ca, cn, cc, i4, rfl, hok⟩ : ∃ (ok : Bool) (i1 i2 : Int) (ca : Option Addr) (cn cc : Nat) (i4 : Int), e = .returned (.tuple #[.agg #[.int .i64 i1, .int .i64 i2, .slice ca cn cc, .int .i64 i4, .bool false], .bool ok]) ∧ ok = l.any (fun e => e.id == ask) := by
            rcases hf with ⟨rfl, hno⟩ | ⟨e1, cs1, hm, hid, rfl, hp⟩
            · refine ⟨false, 0, 0, none, 0, 0, 0, rfl, ?_⟩
              symm
              rw [List.any_eq_false]
              intro e he
              simpa using hno e he
            · obtain ⟨ca, cn, cc, e3⟩ := plain_slice hp
              try dsimp only at e3
              subst e3
              refine ⟨true, _, _, ca, cn, cc, _, rfl, ?_⟩
              symm
              rw [List.any_eq_true]
              exact ⟨e1, hm, by simpa using hid⟩
          rw [← hok]
          have T2' := Lib.hid T2
          have bk : (ok == ok) = true := by simp
          clear hf FN F hok T2
          go_wp2_with fail
          refine (LN.out _ (T2'.out.alloc _)).mono ?_
          rintro e w3 ⟨rfl, b3⟩
          rw [CN.out]
          have B := Lib.hid (((S.out.tn.trans (T2'.out.alloc _)).trans (Turn.of_below b3)).below (B := w.heap.size) fun k hk => ⟨hk, fun f => f⟩)
          clear b3 LN
          go_wp2_with fail
          go_ret
          exact ⟨by simp, B.out⟩
end Go.Proofs.Ytbpcocobimdcnaa
