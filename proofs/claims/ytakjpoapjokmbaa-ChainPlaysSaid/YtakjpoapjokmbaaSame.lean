/-
  What is told of a node is the same on both sides.
-/
import Derived.Test.YtakjpoapjokmbaaDSets
import Derived.Test.YtakjpoapjokmbaaDoes
import Derived.Test.YtakjpoapjokmbaaDeepEnd
namespace Go.Proofs.Ytakjpoapjokmbaa
open Go.ChangeShapes Go.WideShapes Go.ChangeAt Go.RowKit
set_option linter.unusedVariables false

def refNo (q : No) : Int × Int := (q.slot, q.gen)
theorem refs_strip {xs : List Nd} {B : List No} (h : xs.map strip = B.map toNd) : xs.map refOf = B.map refNo := by
  have e1 : xs.map refOf = (xs.map strip).map refOf := by
    rw [List.map_map]
    rfl
  rw [e1, h, List.map_map]
  rfl
theorem sets_strip {xs : List Nd} {B : List No} (h : xs.map strip = B.map toNd) : setsG xs = setsL (B.reverse.map toNd) := by
  rw [sets_both, ← setsL_strip, List.map_reverse, h, List.map_reverse]
/-- What both sides tell of a node, whenever they are asked. -/
structure Tells (c rc : Nat) (id : Int) (B : List No) (cn : Int) (SS : List (List Int)) (W : World) : Prop where
  bk : Calls Try.prog 21 #[.pointer (some ⟨c, 0, none⟩), .int .i64 id] W fun e W' => ∃ v, e = .returned v ∧ W'.ownsRow W.heap.size 39 2 v B.length (rcells (B.map refNo)) ∧ Below W.heap.size W W'
  pa : Calls Try.prog 26 #[.pointer (some ⟨rc, 0, none⟩), .int .i64 id] W (PathPost W B.reverse)
  ct : Calls Try.prog 16 #[.pointer (some ⟨c, 0, none⟩), .int .i64 id] W fun e W' => e = .returned (.int .i64 cn) ∧ Below W.heap.size W W'
  dc : Calls Try.prog 27 #[.pointer (some ⟨rc, 0, none⟩), .int .i64 id] W fun e W' => e = .returned (.int .i64 cn) ∧ W = W'
  st : Calls Try.prog 19 #[.pointer (some ⟨c, 0, none⟩), .int .i64 id] W fun e W' => ∃ v, e = .returned v ∧ Sts W' W.heap.size v SS ∧ Below W.heap.size W W'
  ds : Calls Try.prog 28 #[.pointer (some ⟨rc, 0, none⟩), .int .i64 id] W fun e W' => ∃ v, e = .returned v ∧ Sts W' W.heap.size v SS ∧ Below W.heap.size W W'
section
variable {w wr : World} {c mb rc base t : Nat} {l : List No}
theorem Jt.tells (h : Jt w c mb rc base t l wr) (ht : t ≤ 90) {id : Int} (h1 : -1 ≤ id) (h2 : id ≤ 200) : ∃ (B : List No) (cn : Int) (SS : List (List Int)), B.length ≤ 100 ∧ SS.length ≤ 6 ∧ (∀ (j : Nat) (r : List Int), SS[j]? = some r → r.length ≤ 100000) ∧ ∀ W, Below wr.heap.size wr W → Tells c rc id B cn SS W := by
  have hlen := h.len
  rcases alive_or (l := l) id with hi | ⟨k, q, rfl, hq, hg⟩
  · refine ⟨[], 0, [], by simp, by simp, fun j r h => by simp at h, fun W hb => ?_⟩
    have hW := h.below hb
    obtain ⟨nn, G, a1, a2, a3⟩ := hW.ch
    obtain ⟨v, hv⟩ := hW.rf
    have hG := a3.none hi
    have hwf : (Lit.int .i64 id).wf = true := wf_small (by omega) (by omega)
    have hP := dpath_no hv hi
    refine ⟨?_, hP, ?_, dcount_no hv hi, ?_, dsets_walk (v6 := .slice none 0 0) (W0 := W) hP (by simp) (fun q hq => by simp at hq)⟩
    · exact a2.back hwf (f := 0) hG (by omega)
    · refine (count_at a2 hwf).mono ?_
      rintro e W' ⟨rfl, hb'⟩
      rw [hG]
      exact ⟨rfl, hb'⟩
    · exact a2.sets hwf (f := 0) hG (by omega) (fun q hq => by simp [pathG] at hq)
  · have hkl := (List.getElem?_eq_some_iff.1 hq).1
    obtain ⟨nn0, G0, _, _, a30⟩ := h.ch
    have hw0 := a30.wf k q hq
    have hkids := kidsL_le (k : Int) l
    have hkp := h.kp k q hq
    have hBl := pathB_len a30 (k + 1) (k : Int)
    have P0 := path_same a30 (by omega) (k + 1) (k : Int) (.inr ⟨k, q, rfl, hq, hg⟩) (by omega)
    have hcells : ∀ q' ∈ pathB (k + 1) l (k : Int), 0 ≤ q'.cell ∧ q'.cell ≤ 5 := fun q' hq' => by
      have hm : toNd q' ∈ (pathG (k + 1) G0 (k : Int)).map strip := by
        rw [P0.2.1]
        exact List.mem_map_of_mem hq'
      obtain ⟨x, hx, e⟩ := List.mem_map.1 hm
      have := P0.2.2 x hx
      have e2 : x.cell = q'.cell := congrArg Nd.cell e
      omega
    refine ⟨pathB (k + 1) l (k : Int), q.kept + ((kidsL (k : Int) l : Nat) : Int), setsL ((pathB (k + 1) l (k : Int)).reverse.map toNd), by omega, setsL_len _ (fun q' hq' => ?_), setsL_rows' _ (by simp; omega), fun W hb => ?_⟩
    · obtain ⟨x, hx, rfl⟩ := List.mem_map.1 hq'
      exact (hcells x (by simpa using hx)).2
    · have hW := h.below hb
      obtain ⟨nn, G, a1, a2, a3⟩ := hW.ch
      obtain ⟨v, hv⟩ := hW.rf
      have hwf : (Lit.int .i64 (k : Int)).wf = true := wf_small (by omega) (by omega)
      have P := path_same a3 (by omega) (k + 1) (k : Int) (.inr ⟨k, q, rfl, hq, hg⟩) (by omega)
      have hP := dpath_at hv hW.sz a3 hq hg (by omega)
      refine ⟨?_, hP, ?_, dcount_yes hv hq hg (by omega), ?_, dsets_walk (v6 := .slice none 0 0) (W0 := W) hP (by simp; omega) (fun q' hq' => hcells q' (by simpa using hq'))⟩
      · refine (a2.back hwf P.1 (by omega)).mono ?_
        rintro e W' ⟨v', rfl, hr, hb'⟩
        rw [refs_strip P.2.1, List.length_map] at hr
        exact ⟨v', rfl, hr, hb'⟩
      · refine (count_at a2 hwf).mono ?_
        rintro e W' ⟨rfl, hb'⟩
        rw [a3.node k q hq hg, ndOf_x]
        exact ⟨rfl, hb'⟩
      · refine (a2.sets hwf P.1 (by omega) P.2.2).mono ?_
        rintro e W' ⟨v', rfl, hs, hb'⟩
        rw [sets_strip P.2.1] at hs
        exact ⟨v', rfl, hs, hb'⟩
def SamePost (wr : World) (e : Ending) (w' : World) : Prop := e = .returned (.bool true) ∧ Below wr.heap.size wr w'
set_option maxRecDepth 100000 in
set_option maxHeartbeats 4000000 in
theorem same_at (h : Jt w c mb rc base t l wr) (ht : t ≤ 90) {id : Int} (h1 : -1 ≤ id) (h2 : id ≤ 200) :
    Calls Try.prog 11 #[.pointer (some ⟨c, 0, none⟩), .pointer (some ⟨rc, 0, none⟩), .int .i64 id] wr (SamePost wr) := by
  obtain ⟨B, cn, SS, hB, hS, sl, T⟩ := h.tells ht h1 h2
  have SL := Lib.hid sl
  clear sl
  have BK := Lib.hid (T wr (Below.refl _ _)).bk
  have T := Lib.hid T
  clear h
  go_enter Try.func11, Try.ntmps11
  go_wp2_with fail
  refine BK.out.mono ?_
  rintro e W1 ⟨v1, rfl, r1, b1⟩
  obtain ⟨a1, c1, rfl, ha1⟩ := rrow_slice r1
  have PA := Lib.hid (T.out W1 b1).pa
  have H1 := Lib.hid (And.intro r1 (And.intro ha1 b1))
  clear r1 ha1 b1 BK
  go_wp2_with fail
  refine PA.out.mono ?_
  rintro e W2 ⟨v2, rfl, r2, b2⟩
  obtain ⟨a2, c2, rfl, ha2⟩ := rrow_slice r2
  have bb2 := H1.out.2.2.trans (b2.mono H1.out.2.2.size)
  have CT := Lib.hid (T.out W2 bb2).ct
  have H2 := Lib.hid (And.intro r2 (And.intro ha2 (And.intro bb2 b2)))
  have t1 : ((B.length : Int) != (B.length : Int)) = false := by simp
  have t2 : (cn != cn) = false := by simp
  clear r2 ha2 b2 bb2 PA
  rw [List.length_reverse] at *
  go_wp2_with fail
  refine CT.out.mono ?_
  rintro e W3 ⟨rfl, b3⟩
  have bb3 := H2.out.2.2.1.trans (b3.mono H2.out.2.2.1.size)
  have DC := Lib.hid (T.out W3 bb3).dc
  have ST := Lib.hid (T.out W3 bb3).st
  have H3 := Lib.hid (And.intro bb3 b3)
  clear bb3 b3 CT
  go_wp2_with fail
  refine DC.out.mono ?_
  rintro e W3' ⟨rfl, rfl⟩
  go_wp2_with fail
  refine ST.out.mono ?_
  rintro e W4 ⟨v4, rfl, s4, b4⟩
  obtain ⟨a4, c4, rfl⟩ := s4.shape
  have bb4 := H3.out.1.trans (b4.mono H3.out.1.size)
  have DS := Lib.hid (T.out W4 bb4).ds
  have H4 := Lib.hid (And.intro s4 (And.intro bb4 b4))
  clear s4 bb4 b4 ST DC
  go_wp2_with fail
  refine DS.out.mono ?_
  rintro e W5 ⟨v5, rfl, s5, b5⟩
  obtain ⟨a5, c5, rfl⟩ := s5.shape
  have s45 := H4.out.1.below b5
  have sl := SL.out
  have CM := Lib.hid (compare_at (c1 := c4) (c2 := c5) (grid_of s45 sl) (grid_of s5 sl) rfl rfl (by omega) (by omega))
  have H5 := Lib.hid (And.intro (H4.out.2.1.trans (b5.mono H4.out.2.1.size)) b5)
  clear s5 b5 s45 sl DS
  go_wp2_with fail
  refine CM.out.mono ?_
  rintro e W6 ⟨rfl, d, rfl⟩
  rw [cmpM_self]
  have b26 : Below W2.heap.size W2 (W5.drewN d) := (H3.out.2.trans ((H4.out.2.2.trans (H5.out.2.mono H4.out.2.2.size)).mono H3.out.2.size)).trans ((below_drewN W5 d).mono (by
    have := H3.out.2.size
    have := H4.out.2.2.size
    have := H5.out.2.size
    omega))
  have r2 := rrow_keep (e := 41) H2.out.1 (fun k hk => b26.block k (rrow_lt H2.out.1 hk).2)
  have b16 : Below W1.heap.size W1 (W5.drewN d) := H2.out.2.2.2.trans (b26.mono H2.out.2.2.2.size)
  have r1 := rrow_keep (e := 39) H1.out.1 (fun k hk => b16.block k (rrow_lt H1.out.1 hk).2)
  have bf : Below wr.heap.size wr (W5.drewN d) := H5.out.1.trans ((below_drewN W5 d).mono H5.out.1.size)
  have HA := Lib.hid (And.intro H1.out.2.1 H2.out.2.1)
  have HF := Lib.hid (And.intro r1 (And.intro r2 bf))
  clear r1 r2 bf b26 b16 H1 H2 H3 H4 H5 CM T
  generalize W5.drewN d = W6 at *
  go_wp2_with fail
  go_loopg [9] B.length (fun gh v9 wx => ∃ j : Nat, gh = B.length - j ∧ v9 = .int .i64 (j : Int) ∧ j ≤ B.length ∧ ∃ d, wx = W6.drewN d)
  case atStart => exact ⟨0, rfl, rfl, Nat.zero_le _, 0, rfl⟩
  case round =>
    obtain ⟨j, hgj, rfl, hj, d, rfl⟩ := hrel
    by_cases hjl : j < B.length
    · obtain ⟨g1, rfl⟩ := HA.out.1 (by omega)
      obtain ⟨g2, rfl⟩ := HA.out.2 (by omega)
      obtain ⟨p, hp⟩ : ∃ p, B[j]? = some p := ⟨_, List.getElem?_eq_getElem hjl⟩
      obtain ⟨x1, x2⟩ := rcells_at (B.map refNo) j (refNo p) (by rw [List.getElem?_map, hp]; rfl)
      obtain ⟨m, hm⟩ : ∃ m : Nat, B.length - 1 - j = m := ⟨_, rfl⟩
      have hpr : B.reverse[m]? = some p := by
        rw [List.getElem?_reverse (by omega), show B.length - 1 - m = j from by omega]
        exact hp
      have nr := nrow_of (W := W6) (b := W1.heap.size) (cap := c2) (n := B.length) (L := B.reverse) (by rw [List.length_reverse]; exact HF.out.2.1)
      have n3 : (W6.drewN d).cell? ⟨g2, m * 7 + 3, none⟩ = some (.int .i64 p.slot) := nr m p hpr 3 (by decide)
      have n4 : (W6.drewN d).cell? ⟨g2, m * 7 + 4, none⟩ = some (.int .i64 p.gen) := nr m p hpr 4 (by decide)
      have n4' : (W6.drewN d).cell? ⟨g2, m * 7 + 3 + 1, none⟩ = some (.int .i64 p.gen) := nr m p hpr 4 (by decide)
      have y1 : (W6.drewN d).cell? ⟨g1, j * 2, none⟩ = some (.int .i64 p.slot) := (HF.out.1.cellAt (j * 2) (by omega)).trans x1
      have y2 : (W6.drewN d).cell? ⟨g1, j * 2 + 1, none⟩ = some (.int .i64 p.gen) := (HF.out.1.cellAt (j * 2 + 1) (by omega)).trans x2
      have t8 : decide ((j : Int) < (B.length : Int)) = true := by simp; omega
      have hjn : (j : Int) < (B.length : Int) := by omega
      have hj0 : (0 : Int) ≤ (j : Int) := by omega
      have hmn : (m : Int) < (B.length : Int) := by omega
      have hm0 : (0 : Int) ≤ (m : Int) := by omega
      have s1 : IntKind.i64.wrap ((B.length : Int) - 1) = (B.length : Int) - 1 := IntWalk.i64_in _ (by omega)
      have s2 : IntKind.i64.wrap ((B.length : Int) - 1 - (j : Int)) = (m : Int) := (IntWalk.i64_in _ (by omega)).trans (by omega)
      have D := Lib.hid (drewC (W := W6) (wr := W6.drewN d) ⟨d, rfl⟩)
      clear x1 x2 hp hpr nr hm
      generalize p.slot = p1 at *
      generalize p.gen = p2 at *
      go_wp2_with fail
      generalize W6.drewN d = W7 at *
      go_quiet (fail)
      clear s1 s2
      go_wp2_with fail
      go_roundg (B.length - (j + 1))
      case measure => omega
      case rel => exact ⟨j + 1, rfl, by go_num, by omega, D.out _⟩
    · have t8 : decide ((j : Int) < (B.length : Int)) = false := by simp; omega
      have F := Lib.hid (HF.out.2.2.trans ((below_drewN W6 d).mono HF.out.2.2.size))
      clear HF
      go_wp2_with fail
      go_ret
      exact ⟨rfl, F.out⟩
end
end Go.Proofs.Ytakjpoapjokmbaa
