/-
  All tokens of a text, as the document tells them.
-/
import Derived.Test.YtjahjdmabconeaaDoorQf
import Derived.Test.YtjahjdmabconeaaDoorPo
namespace Go.Proofs.YtjahjdmabconeaaDoor
open Go.ChangeShapes Go.WideShapes Go.ChangeAt Go.RowKit
set_option linter.unusedVariables false
theorem skip_next {l : List UInt8} {i : Nat} {c : UInt8} (h : l[i]? = some c) (hb : isBlank c = true) : skipB (i + 1) l = skipB i l := by
  unfold skipB
  rw [drop_cons h]
  show i + 1 + spanB isBlank (l.drop (i + 1)) = i + (if isBlank c then spanB isBlank (l.drop (i + 1)) + 1 else 0)
  rw [hb]
  simp
  omega
theorem each_same {f i j : Nat} {l : List UInt8} (h : skipB i l = skipB j l) : eachB f i l = eachB f j l := by rw [← eachB_skip f i, h, eachB_skip]
/-- What lies there while tokens are collected. -/
structure EaI (w W : World) (s : ByteArray) (v : Value) (pre : List (Nat × Tok)) (e : Nat) : Prop where
  r : Blk W w.heap.size 42 ∧ W.rangeAt w.heap.size 0 [.slice none 0 0, .int .i64 0]
  a : Blk W (w.heap.size + 1) 42 ∧ W.cell? ⟨w.heap.size + 1, 0, none⟩ = some v ∧ W.cell? ⟨w.heap.size + 1, 1, none⟩ = some (.int .i64 (e : Int))
  own : W.ownsRow (w.heap.size + 2) 30 4 v pre.length (toksC s pre)
  tn : Turn (fun _ => False) w W
section
variable {w W W' : World} {s : ByteArray} {v : Value} {pre : List (Nat × Tok)} {e : Nat}
theorem EaI.turn (h : EaI w W s v pre e) (T : Turn (fun _ => False) W W') : EaI w W' s v pre e :=
  ⟨⟨h.r.1.turn T id, range_turn h.r.2 T id⟩, ⟨h.a.1.turn T id, T.cell id h.a.2.1, T.cell id h.a.2.2⟩, own_turn h.own T (fun _ _ f => f), h.tn.trans T⟩
theorem EaI.bump (h : EaI w W s v pre e) (k : Nat) : EaI w (W.setCell ⟨w.heap.size + 1, 1, none⟩ (.int .i64 (k : Int))) s v pre k :=
  have T := Turn.put W (w.heap.size + 1) 1 (.int .i64 (k : Int))
  ⟨⟨h.r.1.set _ _, range_turn h.r.2 T (by omega)⟩, ⟨h.a.1.set _ _, (cell_off _ _ _ _ _ (by decide)).trans h.a.2.1, World.cell?_setCell_same _ _ _ h.a.2.2⟩, own_turn h.own T (fun k hk q => by have := (own_blk h.own hk).2; omega), h.tn.comp T (fun i hi q => by omega)⟩
/-- One more token. -/
theorem EaI.push (h : EaI w W s v pre e) (x : Nat × Tok) (hl : pre.length ≤ 1000000) (k : Nat) :
    ∃ a' c' W2, (Builtin.append_ #[26, 26] 26 #[v, .slice (some ⟨W.heap.size, 0, none⟩) 1 1]).run Tryd.prog (W.alloc (.cells #[.int .i64 (x.2.kind : Int), .int .i64 (x.1 : Int), .string (s.extract x.1 (x.1 + x.2.len)), .int .i64 (x.2.n : Int)] 30)) = .ok (.slice a' (pre.length + 1) c') W2 ∧
      Turn (fun k => v.ownBlock = some k) W W2 ∧
      EaI w ((W2.setCell ⟨w.heap.size + 1, 0, none⟩ (.slice a' (pre.length + 1) c')).setCell ⟨w.heap.size + 1, 1, none⟩ (.int .i64 (k : Int))) s (.slice a' (pre.length + 1) c') (pre ++ [x]) k := by
  have hs := h.r.1.lt
  have hs2 := h.a.1.lt
  obtain ⟨v', W2, hr, ho, T⟩ := tok_add h.own hl (by omega) (x.2.kind : Int) (x.1 : Int) (x.2.n : Int) (s.extract x.1 (x.1 + x.2.len))
  have own6 : ∀ k, v.ownBlock = some k → w.heap.size + 2 ≤ k := fun k hk => (own_blk h.own hk).2
  obtain ⟨a', c', rfl, -⟩ := own_slice ho
  have nn : ∀ j, j < w.heap.size + 2 → ¬ v.ownBlock = some j := fun j hj e => by have := own6 j e; omega
  have T2 : Turn (fun k => k = w.heap.size + 1) W2 ((W2.setCell ⟨w.heap.size + 1, 0, none⟩ (.slice a' (pre.length + 1) c')).setCell ⟨w.heap.size + 1, 1, none⟩ (.int .i64 (k : Int))) :=
    (Turn.put W2 _ 0 _).trans (Turn.put _ _ 1 _)
  have b1 := h.a.1.turn T (nn _ (by omega))
  have c0 := T.cell (nn _ (by omega)) h.a.2.1
  have c1 := T.cell (nn _ (by omega)) h.a.2.2
  refine ⟨a', c', W2, hr, T, ⟨h.r.1.turn T (nn _ (by omega)) |>.turn T2 (by omega), range_turn (range_turn h.r.2 T (nn _ (by omega))) T2 (by omega)⟩,
    ⟨(b1.set _ _).set _ _, (cell_off _ _ _ _ _ (by decide)).trans (World.cell?_setCell_same _ _ _ c0), World.cell?_setCell_same _ _ _ ((cell_off _ _ _ _ _ (by decide)).trans c1)⟩, ?_, ?_⟩
  · rw [List.length_append, toksC_snoc]
    exact own_turn ho T2 (fun k hk q => by have := (own_blk ho hk).2; omega)
  · exact (h.tn.comp T (fun i hi e => by have := own6 i e; omega)).comp T2 (fun i hi e => by omega)
end
theorem size42 : (Tryd.prog.info? 42).map (fun i => i.size) = some 2 := by kernel_rfl
/-- What Each tells. -/
def EachPost (w : World) (s : ByteArray) (e : Ending) (w' : World) : Prop :=
  Turn (fun _ => False) w w' ∧ ∃ v, e = .returned (.agg #[v, .int .i64 (skipB (endB (toksB s.data.toList)) s.data.toList : Int)]) ∧ w'.ownsRow w.heap.size 30 4 v (toksB s.data.toList).length (toksC s (toksB s.data.toList))
theorem ea_end {w W : World} {a : Act} {s : ByteArray} {v : Value} {e : Nat} (h : EaI w W s v (toksB s.data.toList) e) (he : e = skipB (endB (toksB s.data.toList)) s.data.toList) (hd : a.defers = []) (hp : a.tmps.getD 2 undef = .pointer (some ⟨w.heap.size, 0, none⟩)) :
    bodyPost Tryd.prog Tryd.f17 (EachPost w s) Exit.ret a ((W.setCell ⟨w.heap.size, 0, none⟩ v).setCell ⟨w.heap.size, 1, none⟩ (.int .i64 (e : Int))) := by
  have T : Turn (fun k => k = w.heap.size) W ((W.setCell ⟨w.heap.size, 0, none⟩ v).setCell ⟨w.heap.size, 1, none⟩ (.int .i64 (e : Int))) := (Turn.put W _ 0 _).trans (Turn.put _ _ 1 _)
  have R : ((W.setCell ⟨w.heap.size, 0, none⟩ v).setCell ⟨w.heap.size, 1, none⟩ (.int .i64 (e : Int))).rangeAt w.heap.size 0 [v, .int .i64 (e : Int)] := by
    have c0 := h.r.2 0 _ rfl
    have c1 := h.r.2 1 _ rfl
    rw [Nat.zero_add] at c0 c1
    intro k u hu
    rw [Nat.zero_add]
    match k, hu with
    | 0, hu =>
      obtain rfl : v = u := by simpa using hu
      exact (cell_off _ _ _ _ _ (by decide)).trans (World.cell?_setCell_same _ _ _ c0)
    | 1, hu =>
      obtain rfl : Value.int .i64 (e : Int) = u := by simpa using hu
      exact World.cell?_setCell_same _ _ _ ((cell_off _ _ _ _ _ (by decide)).trans c1)
    | k + 2, hu => simp at hu
  exact bodyPost_ret (v := .agg #[v, .int .i64 (e : Int)]) (res_cell (a := 2) rfl hp (run_loadVar_mid _ w.heap.size 0 42 _ _ R Tryd.underlying42 rfl size42)) hd
    ⟨h.tn.comp T (fun i hi q => by omega), v, by rw [he], own_weak (own_turn h.own T (fun k hk q => by have := (own_blk h.own hk).2; omega)) (by omega)⟩
def EaRel (w : World) (s : ByteArray) (gh : Nat) (wr : World) : Prop := ∃ v pre e f, EaI w wr s v pre e ∧ e ≤ s.size ∧ gh = s.size - e ∧ toksB s.data.toList = pre ++ eachB f e s.data.toList ∧ s.size < e + f ∧ skipB e s.data.toList = skipB (endB pre) s.data.toList ∧ pre.length ≤ e
theorem ea_wrap {s : ByteArray} {e n : Nat} (h : e + n ≤ s.size) (hs : s.size ≤ 1000000) : wrap64 ((e : Int) + ((s.extract e (e + n)).size : Int)) = ((e + n : Nat) : Int) := by
  have hsz : (s.extract e (e + n)).size = n := by rw [ByteArray.size_extract]; omega
  rw [hsz]
  exact wrap_sum (by omega)
theorem kind_ne {k : Nat} (h : 1 ≤ k) : ((k : Int) == 0) = false := by simp; omega
theorem ea_step {w W : World} {s : ByteArray} {v : Value} {pre : List (Nat × Tok)} {e f : Nat} {t : Tok} (I3 : EaI w W s v (pre ++ [(e, t)]) (e + t.len)) (hend : e + t.len ≤ s.size) (ht : toksB s.data.toList = pre ++ eachB f e s.data.toList) (hf : s.size < e + f) (hlt : e < s.size)
    (hk : skipB e s.data.toList = e) (hfd : findB (s.data.toList.drop e) = some t) (hl : 1 ≤ t.len) (hle : pre.length ≤ e) : EaRel w s (s.size - (e + t.len)) W := by
  obtain ⟨f', rfl⟩ : ∃ f', f = f' + 1 := ⟨f - 1, by omega⟩
  refine ⟨v, pre ++ [(e, t)], e + t.len, f', I3, hend, rfl, ?_, by omega, by rw [endB_snoc], by rw [List.length_append]; simp; omega⟩
  rw [ht, eachB_some (by rw [hk]; exact hfd), hk, List.append_assoc]
  rfl
set_option maxRecDepth 100000 in
set_option maxHeartbeats 2000000 in
theorem reach_is (w : World) (s : ByteArray) (hs : s.size ≤ 1000000) : Calls Tryd.prog 17 #[.string s] w (EachPost w s) := by
  have R0 : EaRel w s s.size ((w.alloc (.cells #[.slice none 0 0, .int .i64 0] 42)).alloc (.cells #[.slice none 0 0, .int .i64 0] 42)) := by
    have z1 : (w.alloc (.cells #[.slice none 0 0, .int .i64 0] 42)).heap.size = w.heap.size + 1 := World.size_alloc ..
    refine ⟨.slice none 0 0, [], 0, s.data.toList.length + 1, ⟨⟨(Blk.newA rfl).alloc _, range_turn (range_new w [.slice none 0 0, .int .i64 0] 42) (show Turn (fun _ => False) _ _ from (Turn.refl _ _).alloc _) id⟩, ⟨Blk.newA z1.symm, cell_new z1.symm rfl, cell_new z1.symm rfl⟩, World.ownsRow_nil _ _ _ _, ((Turn.refl _ _).alloc _).alloc _⟩, Nat.zero_le _, rfl, rfl, by rw [← str_len]; omega, rfl, Nat.zero_le _⟩
  have NX := Lib.hid (fun (w : World) (i : Nat) (hi : i < s.size) => next_is w s hi (Nat.le_trans hs (by decide)))
  have BL := Lib.hid rblank_is
  have HS := Lib.hid hs
  clear hs
  go_enter Tryd.func17, Tryd.ntmps17
  go_wp2_with fail
  go_loopg [] s.size (fun gh wr => EaRel w s gh wr)
  case atStart => exact R0
  case round =>
    clear R0
    obtain ⟨v, pre, e, f, hI, he, hg, ht, hf, hsk, hle⟩ := hrel
    obtain ⟨a, cap, rfl, -⟩ := own_slice hI.own
    have c0 := hI.a.2.1
    have c1 := hI.a.2.2
    have fa := hI.a.1.fz
    have r0 : wr.cell? ⟨w.heap.size, 0, none⟩ = some (.slice none 0 0) := hI.r.2 0 _ rfl
    have r1 : wr.cell? ⟨w.heap.size, 1, none⟩ = some (.int .i64 0) := hI.r.2 1 _ rfl
    have fr := hI.r.1.fz
    have GG := Lib.hid (And.intro he (And.intro hg (And.intro ht (And.intro hf (And.intro hsk hle)))))
    have II := Lib.hid hI
    clear hg ht hf hsk hle
    by_cases hlt : e < s.size
    · obtain ⟨c, hc⟩ : ∃ c, s.data.toList[e]? = some c := ⟨_, List.getElem?_eq_getElem (by rw [← str_len]; exact hlt)⟩
      have hx := fun W => str_at hc W
      have B := Lib.hid (fun w => BL.out w c)
      have N1 := Lib.hid (NX.out wr e hlt)
      have u1 := dec_ilt hlt
      have u2 : decide (e < s.size) = true := decide_eq_true hlt
      have hw := wrap_one (a := e) (by have := HS.out; omega)
      have HC := Lib.hid (And.intro hc hlt)
      obtain ⟨p, hp⟩ : ∃ p : Int, p = ((e + 1 : Nat) : Int) := ⟨_, rfl⟩
      rw [← hp] at hw
      obtain ⟨m, hm⟩ : ∃ m : Int, m = (c.toNat : Int) := ⟨_, rfl⟩
      rw [← hm] at hx B
      by_cases hb : isBlank c = true
      · have FIN := Lib.hid (show EaRel w s (s.size - (e + 1)) (wr.setCell ⟨w.heap.size + 1, 1, none⟩ (.int .i64 ((e + 1 : Nat) : Int))) from
          ⟨_, pre, e + 1, f, hI.bump (e + 1), hlt, rfl, by rw [GG.out.2.2.1]; rw [each_same (skip_next hc hb)], by have := GG.out.2.2.2.1; omega, by rw [skip_next hc hb]; exact GG.out.2.2.2.2.1, by have := GG.out.2.2.2.2.2; omega⟩)
        rw [hb] at B
        rw [← hp] at FIN
        clear hI he hlt hc hp hm hb
        go_wp2_with fail
        with_reducible refine (B.out _).mono ?_
        rintro e' w1 ⟨rfl, rfl⟩
        go_wp2_with fail
        go_roundg (s.size - (e + 1))
        case measure => have := GG.out.2.1; have := HC.out.2; omega
        case rel => exact FIN.out
      · have hb : isBlank c = false := by simpa using hb
        rw [hb] at B
        have SK := Lib.hid (show skipB e s.data.toList = e from skipB_zero (fun c' hc' => by rw [hc] at hc'; injection hc' with h; rw [← h]; exact hb))
        clear he hlt hc hp hm hb
        go_wp2_with fail
        with_reducible refine (B.out _).mono ?_
        rintro e' w1 ⟨rfl, rfl⟩
        go_wp2_with fail
        with_reducible refine N1.out.mono ?_
        rintro e' w1 ⟨T1, rfl⟩
        cases hfd : findB (s.data.toList.drop e) with
        | none =>
          have hV : nextV s e = .agg #[.int .i64 0, .int .i64 0, .string ⟨#[]⟩, .int .i64 0] := by unfold nextV; rw [hfd]; rfl
          rw [hV]
          clear hV
          have FIN0 := Lib.hid (show pre = toksB s.data.toList ∧ e = skipB (endB (toksB s.data.toList)) s.data.toList from by
            have h0 : eachB f e s.data.toList = [] := eachB_none (by rw [SK.out]; exact hfd)
            have ht := GG.out.2.2.1
            rw [h0, List.append_nil] at ht
            rw [ht]
            exact ⟨rfl, by rw [← GG.out.2.2.2.2.1]; exact SK.out.symm⟩)
          clear hfd
          obtain ⟨W2, hW2⟩ : ∃ W2, W2 = w1.alloc (.cells ztok.toArray 30) := ⟨_, rfl⟩
          have T2 : Turn (fun _ => False) wr W2 := by rw [hW2]; exact T1.alloc _
          have I2 := II.out.turn T2
          have d0 : W2.cell? ⟨w1.heap.size, 0, none⟩ = some (.int .i64 0) := by rw [hW2]; exact cell_new rfl rfl
          have c0 := I2.a.2.1
          have c1 := I2.a.2.2
          have fa := I2.a.1.fz
          have r0 : W2.cell? ⟨w.heap.size, 0, none⟩ = some (.slice none 0 0) := I2.r.2 0 _ rfl
          have r1 : W2.cell? ⟨w.heap.size, 1, none⟩ = some (.int .i64 0) := I2.r.2 1 _ rfl
          have fr := I2.r.1.fz
          have HW := Lib.hid hW2
          have FIN := Lib.hid (And.intro I2 FIN0.out)
          clear T1 T2 hW2 I2
          go_upto_region 7 with fail
          rw [← (show W2 = w1.alloc (.cells #[.int .i64 0, .int .i64 0, .string ⟨#[]⟩, .int .i64 0] 30) from HW.out)]
          go_wp2_with fail
          have E0 : EaI w W2 s (.slice a pre.length cap) (toksB s.data.toList) e := by rw [← FIN.out.2.1]; exact FIN.out.1
          exact ea_end E0 FIN.out.2.2 rfl rfl
        | some t =>
          have hV : nextV s e = .agg #[.int .i64 (t.kind : Int), .int .i64 (e : Int), .string (s.extract e (e + t.len)), .int .i64 (t.n : Int)] := by unfold nextV; rw [hfd]; rfl
          rw [hV]
          clear hV
          have hl := findB_len hfd
          have hkd := findB_kind hfd
          have hend : e + t.len ≤ s.size := by
            have := hl.2
            rw [List.length_drop, ← str_len] at this
            have := HC.out.2
            omega
          obtain ⟨tx, htx⟩ : ∃ tx, tx = s.extract e (e + t.len) := ⟨_, rfl⟩
          rw [← htx]
          obtain ⟨W2, hW2⟩ : ∃ W2, W2 = w1.alloc (.cells #[.int .i64 (t.kind : Int), .int .i64 (e : Int), .string tx, .int .i64 (t.n : Int)] 30) := ⟨_, rfl⟩
          have T2 : Turn (fun _ => False) wr W2 := by rw [hW2]; exact T1.alloc _
          have I2 := II.out.turn T2
          have B5 : Blk W2 w1.heap.size 30 := by rw [hW2]; exact Blk.newA rfl
          have d0 : W2.cell? ⟨w1.heap.size, 0, none⟩ = some (.int .i64 (t.kind : Int)) := by rw [hW2]; exact cell_new rfl rfl
          have d1 : W2.cell? ⟨w1.heap.size, 1, none⟩ = some (.int .i64 (e : Int)) := by rw [hW2]; exact cell_new rfl rfl
          have d2 : W2.cell? ⟨w1.heap.size, 2, none⟩ = some (.string tx) := by rw [hW2]; exact cell_new rfl rfl
          have d3 : W2.cell? ⟨w1.heap.size, 3, none⟩ = some (.int .i64 (t.n : Int)) := by rw [hW2]; exact cell_new rfl rfl
          obtain ⟨a', c', W3, hrun, T3, I3⟩ := I2.push (e, t) (by have := GG.out.2.2.2.2.2; have := HS.out; omega) (e + t.len)
          have h1 := T1.size
          have hlo : ∀ k, (Value.slice a pre.length cap).ownBlock = some k → w.heap.size + 2 ≤ k ∧ k < w1.heap.size := fun k hk => ⟨(own_blk II.out.own hk).2, Nat.lt_of_lt_of_le (own_blk II.out.own hk).1.lt h1⟩
          have hb1 := Nat.lt_of_lt_of_le II.out.a.1.lt h1
          have nA : ¬ (Value.slice a pre.length cap).ownBlock = some (w.heap.size + 1) := fun q => by have := (hlo _ q).1; omega
          have n5 : ¬ (Value.slice a pre.length cap).ownBlock = some w1.heap.size := fun q => by have := (hlo _ q).2; omega
          have c0 := I2.a.2.1
          have c1 := I2.a.2.2
          have c0' := T3.cell nA c0
          have c1' := T3.cell nA c1
          have d2' := T3.cell n5 d2
          have fa' := (I2.a.1.turn T3 nA).fz
          have m1 : w.heap.size + 1 ≠ w1.heap.size := by omega
          have m2 : w1.heap.size ≠ w.heap.size + 1 := by omega
          have hw := ea_wrap hend HS.out
          simp only [← htx] at hrun
          rw [← htx] at hw
          have u3 := kind_ne hkd
          obtain ⟨q, hq⟩ : ∃ q : Int, q = ((e + t.len : Nat) : Int) := ⟨_, rfl⟩
          have FIN := Lib.hid (show EaRel w s (s.size - (e + t.len)) ((W3.setCell ⟨w.heap.size + 1, 0, none⟩ (.slice a' (pre.length + 1) c')).setCell ⟨w.heap.size + 1, 1, none⟩ (.int .i64 ((e + t.len : Nat) : Int))) from
            ea_step I3 hend GG.out.2.2.1 GG.out.2.2.2.1 HC.out.2 SK.out hfd hl.1 GG.out.2.2.2.2.2)
          rw [← hq] at hw FIN
          have RUN := Lib.hid hrun
          have HW := Lib.hid hW2
          have HE := Lib.hid (And.intro hend hl)
          clear hW2 hrun T1 T2 I2 I3 B5 T3 hfd hl hkd hend hlo hb1 nA n5 hq h1 htx
          go_upto_region 7 with fail
          rw [← HW.out]
          go_wp2_with (refine rl_append_run (by rfl) _ _ _ (by rfl) (by rfl) (by rfl) RUN.out ?_)
          go_roundg (s.size - (e + t.len))
          case measure => have := GG.out.2.1; have := HE.out.1; have := HE.out.2.1; have := HC.out.2; omega
          case rel => exact FIN.out
    · have u1 := dec_inlt hlt
      have u2 : decide (e < s.size) = false := decide_eq_false hlt
      have hee : e = s.size := by omega
      have FIN := Lib.hid (show EaI w wr s (.slice a pre.length cap) (toksB s.data.toList) e ∧ e = skipB (endB (toksB s.data.toList)) s.data.toList ∧ (toksB s.data.toList).length = pre.length from by
        have h0 : eachB f e s.data.toList = [] := eachB_none (by rw [List.drop_eq_nil_of_le (by have := skip_ge e s.data.toList; rw [← str_len]; omega)]; rfl)
        have ht := GG.out.2.2.1
        rw [h0, List.append_nil] at ht
        rw [ht]
        refine ⟨hI, ?_, rfl⟩
        have hsk := GG.out.2.2.2.2.1
        rw [← hsk]
        have h1 := skip_ge e s.data.toList
        have h2 := skipB_le (i := e) (l := s.data.toList) (by rw [← str_len]; omega)
        rw [← str_len] at h2
        omega)
      clear he hlt hI hee
      go_wp2_with fail
      exact ea_end FIN.out.1 FIN.out.2.1 rfl rfl
end Go.Proofs.YtjahjdmabconeaaDoor
