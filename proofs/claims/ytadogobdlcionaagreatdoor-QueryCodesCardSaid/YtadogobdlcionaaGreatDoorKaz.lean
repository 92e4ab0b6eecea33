/-
  Sound: what it answers; codes printed.
  Codes of plain numbers: the walk.
  A row of integers that came in.
-/
import Derived.Test.YtadogobdlcionaaGreatDoorKax
import Derived.Test.YtadogobdlcionaaGreatDoorKay
import Derived.Deep.CutBlock
import Derived.Laws.DeepStrings4
import Derived.WalkKit
import Derived.ProofKit
import Derived.OpenShut
import Derived.ChangeSlices
set_option linter.unusedSimpArgs false
namespace Go.Proofs.YtadogobdlcionaaGreatDoor
open Go.ChangeShapes Go.WideShapes Go.ChangeAt Go.RowKit Go.Shelf
set_option linter.unusedVariables false
/-- What is printed of sound codes. -/
theorem codes_print {c : List CD} (h : Tr c) (hn : c.length ≤ 1000) : ∃ (R : List IT) (d : Nat), Neat R ∧ D 0 d (toksR R) c ∧ printT (quC c) = ⟨(hdC ++ bytesR R ++ tlC).toArray⟩ ∧ QFit (quC c) := by
  obtain ⟨d, ts, hD, hg, hl⟩ := h
  obtain ⟨P, R, sp, fl, nt, dv, le, sz⟩ := sum_printed (M := 20) (by decide) hD.p0.s0 hg
  have s0 : sumT [numC] = some [⟨#[48]⟩] := by
    have e1 : needsT numC = (0, true) := by kernel_rfl
    have l1 : leafT numC = ⟨#[48]⟩ := by
      unfold leafT
      rw [if_pos (show numC.op = 6 from rfl)]
      show (⟨(Lib.itoa ((0 : Nat) : Int)).toArray⟩ : ByteArray) = _
      rw [itoa0]
    have := fold_leaf (c := numC) (rest := []) (S := []) e1
    unfold sumT
    rw [show [numC] = [numC] ++ [] from rfl, this, l1]
    rfl
  have hf := hD.fits (M := 20) (by decide) hg
  have e3 : Lib.itoa ((3 : Nat) : Int) = [51] := itoa3
  refine ⟨R, d, nt, dv, ?_, ?_⟩
  · have hok : printOk (quC c) = true := by
      unfold printOk quC
      dsimp only
      have h1 : [elC].all elOk = true := by
        simp [el_ok elC_g]
      have h2 : ([⟨1, c, [numC]⟩] : List CN).all cnOk = true := by
        simp [cnOk, sp, s0]
      rw [h1, h2]
      simp
    unfold printT
    rw [if_pos hok]
    unfold quC elsT cnsT
    dsimp only
    congr 2
    rw [e3]
    simp only [List.map_cons, List.map_nil, catT, if_true, List.append_nil]
    unfold cnT
    dsimp only
    rw [sp, s0]
    show seqB.data.toList ++ elT elC ++ (whB.data.toList ++ (flat P ++ [32] ++ [61] ++ [32] ++ flat [⟨#[48]⟩])) ++ wiB.data.toList ++ [51] ++ [] = _
    rw [fl, flat_one]
    simp [hdC, tlC, elT, elC]
  · have hb : ∀ ts, sumT c = some ts → (flat ts).length ≤ 1000000000 := by
      intro us hu
      rw [sp] at hu
      injection hu with hu
      subst hu
      rw [fl]
      have h1 : (toksR R).length * 22 ≤ 4000 * 22 := Nat.mul_le_mul_right _ (by omega)
      omega
    refine ⟨by show (1 : Nat) ≤ 1000; decide, by show (1 : Nat) ≤ 1000; decide, fun x hx => ?_, fun x hx => ?_, by show (3 : Nat) ≤ 9223372036854775807; decide⟩
    · obtain rfl := List.mem_singleton.1 hx
      decide
    · obtain rfl := List.mem_singleton.1 hx
      refine ⟨⟨by show c.length ≤ _; omega, by show (1 : Nat) ≤ _; decide⟩, ⟨hf.1, fun y hy => ?_⟩, hb, fun ts q => ?_⟩
      · obtain rfl := List.mem_singleton.1 hy
        exact ⟨by decide, by decide, by decide⟩
      · dsimp only at q
        rw [s0] at q
        injection q with q
        subst q
        decide
theorem sndT_cons (c : CD) (l : List CD) (n : Int) : sndT (c :: l) n = if (needsT c).2 = false ∨ n < (needsT c).1 then false else sndT l (n + (1 - (needsT c).1)) := rfl
/-- What holds between two codes. -/
def SdQ (w : World) (l : List CD) (gh : Nat) (v3 v10 : Value) (wr : World) : Prop :=
  ∃ (j : Nat) (t : Int), v3 = .int .i64 t ∧ v10 = .int .i64 (j : Int) ∧ j ≤ l.length ∧ gh = l.length - j ∧ (0 ≤ t ∧ t ≤ (j : Int)) ∧ sndT l 0 = sndT (l.drop j) t ∧ Turn (fun _ => False) w wr
theorem needs_rng (c : CD) : (needsT c).1 = 0 ∨ (needsT c).1 = 1 ∨ (needsT c).1 = 2 := by
  rcases needs_cases c with h | h | ⟨h, -⟩
  · exact .inl h
  · exact .inr (.inl h)
  · exact .inr (.inr h)
theorem wrap_small {x : Int} (h : -1000 ≤ x) (h2 : x ≤ 2000000) : wrap64 x = x := by unfold wrap64; omega
set_option maxRecDepth 100000 in
set_option maxHeartbeats 4000000 in
theorem sound_is {w : World} {b : Nat} {v : Value} {l : List CD} (h : cdsV b l w v) (hn : l.length ≤ 1000000) (hf : ∀ c ∈ l, CdFit c) (hE : ErrAt w) :
    Calls Tryz.prog 15 #[v] w fun e w' => e = .returned (.bool (sndT l 0)) ∧ Turn (fun _ => False) w w' := by
  obtain ⟨a, c, rfl, g⟩ := own_slice h
  unfold cdsV at h
  obtain ⟨n, hL⟩ : ∃ n, n = l.length := ⟨_, rfl⟩
  obtain ⟨R, hR⟩ : ∃ R, R = sndT l 0 := ⟨_, rfl⟩
  rw [← hL] at h hn g ⊢
  rw [← hR]
  have H1 := Lib.hid (And.intro h (And.intro hL (And.intro hn (And.intro hf (And.intro hE (And.intro hR g))))))
  clear h hn hL g hf hE hR
  go_enter Tryz.func15, Tryz.ntmps15
  go_wp2_with fail
  go_loopg [3, 10] n (fun gh v3 v10 wr => SdQ w l gh v3 v10 wr)
  case atStart => exact ⟨0, 0, rfl, by simp, Nat.zero_le _, by rw [H1.out.2.1]; rfl, ⟨Int.le_refl _, Int.le_refl _⟩, rfl, Turn.refl _ _⟩
  case round =>
    obtain ⟨j, t, rfl, rfl, hj, hg, ht, hs, TT⟩ := hrel
    by_cases hjn : j < n
    · obtain ⟨x, hx⟩ : ∃ x, l[j]? = some x := ⟨_, List.getElem?_eq_getElem (by have := H1.out.2.1; omega)⟩
      obtain ⟨g1, rfl⟩ := H1.out.2.2.2.2.2.2 (by omega)
      obtain ⟨p0, p1, p2, p3, p4⟩ := cds_cells' H1.out.1 H1.out.2.1 hx
      replace p0 := TT.cell id p0
      replace p1 := TT.cell id p1
      replace p2 := TT.cell id p2
      replace p3 := TT.cell id p3
      replace p4 := TT.cell id p4
      have hcf := H1.out.2.2.2.1 x (List.mem_of_getElem? hx)
      have NE := Lib.hid (fun W (T : Turn (fun _ => False) w W) => needs_is W x (Nat.le_trans hcf.2.2 (by decide)) (H1.out.2.2.2.2.1.turn T id))
      have hdr : l.drop j = x :: l.drop (j + 1) := by
        obtain ⟨hl, hx⟩ := List.getElem?_eq_some_iff.1 hx
        rw [List.drop_eq_getElem_cons hl, hx]
      rw [hdr, sndT_cons] at hs
      have u1 := dec_ilt hjn
      have u2 : decide (j < n) = true := decide_eq_true hjn
      have i0 : (0 : Int) ≤ (j : Int) := Int.natCast_nonneg j
      have i1 : (j : Int) < (n : Int) := Int.ofNat_lt.2 hjn
      have hw := wrap_one (a := j) (by have := H1.out.2.2.1; omega)
      have nr := needs_rng x
      obtain ⟨k, hk⟩ : ∃ k, k = (needsT x).1 := ⟨_, rfl⟩
      obtain ⟨bk, hbk⟩ : ∃ b, b = (needsT x).2 := ⟨_, rfl⟩
      unfold CD.cells at NE
      rw [← hk, ← hbk] at hs NE
      rw [← hk] at nr
      have hw1 : wrap64 (1 - k) = 1 - k := wrap_small (by omega) (by omega)
      have hw2 : wrap64 (t + (1 - k)) = t + (1 - k) := wrap_small (by omega) (by have := H1.out.2.2.1; omega)
      obtain ⟨bl, hbl⟩ : ∃ b, b = decide (t < k) := ⟨_, rfl⟩
      have u3 : decide (t < k) = bl := hbl.symm
      have FIN := Lib.hid (And.intro hjn (And.intro TT (And.intro ht (And.intro hs (And.intro hbl nr)))))
      have HG := Lib.hid hg
      obtain ⟨xo, xn, xv, xf⟩ := x
      dsimp only at p0 p1 p2 p3 p4 NE
      clear hx hj hjn TT hs hdr hcf ht hg hbl nr hk hbk
      go_wp2_with fail
      with_reducible refine (NE.out _ (FIN.out.2.1.alloc _)).mono ?_
      rintro y w2 ⟨rfl, T2⟩
      have T3 := Lib.hid (((FIN.out.2.1).alloc _).trans T2)
      clear T2 NE p0 p1 p2 p3 p4
      cases bk with
      | false =>
        have hr : R = false := by rw [H1.out.2.2.2.2.2.1, FIN.out.2.2.2.1]; simp
        have HRR := Lib.hid hr
        clear hr
        cases bl <;>
        · go_wp2_with fail
          go_ret
          exact ⟨by rw [HRR.out]; rfl, T3.out⟩
      | true =>
        cases bl with
        | true =>
          have hr : R = false := by
            rw [H1.out.2.2.2.2.2.1, FIN.out.2.2.2.1, if_pos (.inr (of_decide_eq_true FIN.out.2.2.2.2.1.symm))]
          have HRR := Lib.hid hr
          clear hr
          go_wp2_with fail
          go_ret
          exact ⟨by rw [HRR.out]; rfl, T3.out⟩
        | false =>
          have hs2 : sndT l 0 = sndT (l.drop (j + 1)) (t + (1 - k)) := by
            rw [FIN.out.2.2.2.1, if_neg (fun q => q.elim (fun q => by cases q) (fun q => absurd q (of_decide_eq_false FIN.out.2.2.2.2.1.symm)))]
          have HS2 := Lib.hid hs2
          clear hs2
          go_wp2_with fail
          go_roundg (n - (j + 1))
          case measure => have := FIN.out.1; have := HG.out; have := H1.out.2.1; omega
          case rel =>
            have h1 := FIN.out.1
            have h2 := FIN.out.2.2.1
            have h3 := FIN.out.2.2.2.2.2
            have h4 := of_decide_eq_false FIN.out.2.2.2.2.1.symm
            have h5 := H1.out.2.1
            exact ⟨j + 1, t + (1 - k), by rw [hw2], by rw [hw], by omega, by omega, ⟨by omega, by omega⟩, HS2.out, T3.out⟩
    · obtain rfl : j = n := by have := H1.out.2.1; omega
      have u1 := dec_inlt hjn
      have u2 : decide (j < j) = false := decide_eq_false hjn
      have FIN := Lib.hid TT
      have hd : l.drop j = [] := List.drop_eq_nil_of_le (by have := H1.out.2.1; omega)
      rw [hd] at hs
      have HS := Lib.hid hs
      have HR := Lib.hid (show R = (t == 1) by rw [H1.out.2.2.2.2.2.1, hs]; unfold sndT; rw [Bool.eq_iff_iff]; simp)
      obtain ⟨b1, hb1⟩ : ∃ b, b = (t == 1) := ⟨_, rfl⟩
      rw [← hb1] at HR
      have u3 : (t == 1) = b1 := hb1.symm
      clear hj hjn TT hs hd ht hg hb1 HS
      go_wp2_with fail
      go_ret
      exact ⟨by rw [HR.out]; rfl, FIN.out⟩
end Go.Proofs.YtadogobdlcionaaGreatDoor
namespace Go.Proofs.YtadogobdlcionaaGreatDoor
open Go.ChangeShapes Go.WideShapes Go.ChangeAt Go.RowKit Go.Shelf
set_option linter.unusedVariables false
namespace Mad
theorem RowAt.old {w U : World} {v : Value} {l : List Int} (h : RowAt w v l) (T : Turn (fun q => w.heap.size ≤ q) w U) : RowAt U v l := by
  obtain ⟨a, b, off, cap, e, hc, ha, hx⟩ := h
  exact ⟨a, b, off, cap, e, hc, ha, fun j x hj => T.cell (Nat.not_le.2 (block_lt_of_cell (hx j x hj))) (hx j x hj)⟩
end Mad

def cdQ (c : Mad.Qc) : CD := ⟨c.op, c.n, c.nm, c.fld⟩
theorem cdQ_cells : ∀ l : List Mad.Qc, Mad.qcells l = cdsC (l.map cdQ)
  | [] => rfl
  | c :: l => by
    show c.cells ++ Mad.qcells l = _
    rw [cdQ_cells l]
    rfl
theorem cdQ_dep : ∀ (l : List Mad.Qc) (n : Nat), Mad.depQ l n = dpN (l.map cdQ) n
  | [], n => rfl
  | c :: l, n => by
    simp only [Mad.depQ, List.map_cons, dpN]
    rw [show Mad.takesQ c = tkN (cdQ c) from rfl, cdQ_dep l]
def nmsC : List ByteArray := [⟨#[97]⟩, ⟨#[98, 101, 101]⟩, ⟨#[99, 50]⟩]
theorem nms_good {t : ByteArray} (h : t ∈ nmsC) : GoodA ⟨1, t, 0⟩ ∧ nmA ⟨1, t, 0⟩ = true ∧ t.size ≤ 20 := by
  simp only [nmsC, List.mem_cons, List.not_mem_nil, or_false] at h
  rcases h with rfl | rfl | rfl
  · exact ⟨word_good (c := 97) (r := []) rfl (by decide) (by simp), by kernel_rfl, by decide⟩
  · exact ⟨word_good (c := 98) (r := [101, 101]) rfl (by decide) (by decide), by kernel_rfl, by decide⟩
  · exact ⟨word_good (c := 99) (r := [50]) rfl (by decide) (by decide), by kernel_rfl, by decide⟩
theorem cdQ_good {c : Mad.Qc} (h : Mad.QcOk nmsC c) : CdG (cdQ c) := by
  rcases h with h | ⟨h1, ⟨h2, h3⟩, h4, h5⟩ | h
  · exact .inl h
  · obtain ⟨g1, g2, g3⟩ := nms_good h2
    exact .inr (.inl ⟨h1, ⟨g1, g2, g3, h3⟩, h4, h5⟩)
  · exact .inr (.inr h)
theorem own_one (W : World) {base sz : Nat} {t : TypeId} {xs : List Value} (hb : base ≤ W.heap.size) (hs : xs.length = sz) : (W.alloc (.cells xs.toArray t)).ownsRow base t sz (.slice (some ⟨W.heap.size, 0, none⟩) 1 1) 1 xs := by
  refine ⟨by omega, .inr ⟨W.heap.size, 1, xs.toArray, rfl, hb, World.alloc_heap_new W _, Nat.le_refl _, by unfold maxLen; decide, ?_, ?_⟩⟩
  · simp [hs]
  · rw [← hs]; simp
theorem own_empty (W : World) {base sz : Nat} {t : TypeId} (hb : base ≤ W.heap.size) : (W.alloc (.cells #[] t)).ownsRow base t sz (.slice (some ⟨W.heap.size, 0, none⟩) 0 0) 0 [] := by
  refine ⟨by simp, .inr ⟨W.heap.size, 0, #[], rfl, hb, World.alloc_heap_new W _, Nat.le_refl _, by unfold maxLen; decide, ?_, ?_⟩⟩
  · simp
  · simp
theorem own_prefix {W : World} {base sz n m cap : Nat} {t : TypeId} {a : Option Addr} {xs : List Value} (h : W.ownsRow base t sz (.slice a n cap) n xs) (hm : m ≤ n) (h1 : 0 < n) : W.ownsRow base t sz (.slice a m cap) m (xs.take (m * sz)) := by
  obtain ⟨h0, ⟨-, q⟩ | ⟨g, c, cur, e, hg, hb, hc, hl, hs, ht⟩⟩ := h
  · omega
  · injection e with e1 e2 e3
    subst e1
    subst e3
    have hle : m * sz ≤ n * sz := Nat.mul_le_mul_right _ hm
    refine ⟨by rw [List.length_take]; omega, .inr ⟨g, cap, cur, rfl, hg, hb, by omega, hl, hs, ?_⟩⟩
    rw [← ht, List.take_take, Nat.min_eq_left hle]
theorem cdsC_take (l : List CD) (x : CD) : (cdsC (l ++ [x])).take (l.length * 5) = cdsC l := by
  rw [cdsC_app, ← cdsC_len l, List.take_left]
theorem codes_more {cs : List CD} (hd : dpN cs 0 = some 1) (hg : ∀ c ∈ cs, CdG c) : sndT (cs ++ [⟨6, 1, ⟨#[]⟩, 0⟩]) 0 = false := by
  have h1 : CdG ⟨6, 1, ⟨#[]⟩, 0⟩ := .inl ⟨rfl, ⟨by decide, by decide, rfl⟩, rfl⟩
  have := snd_dp (cs ++ [⟨6, 1, ⟨#[]⟩, 0⟩]) 0 (fun c hc => by
    rcases List.mem_append.1 hc with hc | hc
    · exact hg c hc
    · obtain rfl := List.mem_singleton.1 hc; exact h1)
  rw [show ((0 : Nat) : Int) = 0 from rfl] at this
  rw [this, dpN_app, hd]
  decide
theorem codes_last {l : List CD} {x : CD} (hd : dpN (l ++ [x]) 0 = some 1) (hg : ∀ c ∈ l ++ [x], CdG c) : sndT l 0 = false ∨ x.op = 9 := by
  have := snd_dp l 0 (fun c hc => hg c (by simp [hc]))
  rw [show ((0 : Nat) : Int) = 0 from rfl] at this
  rw [this]
  by_cases h : dpN l 0 = some 1
  · right
    rw [dpN_app, h] at hd
    have hd : dpN [x] 1 = some 1 := hd
    simp only [dpN] at hd
    split at hd
    · cases hd
    · injection hd with hd
      have hx : tkN x = 1 := by omega
      rcases op_of (hg x (by simp)) (by omega) with ⟨-, ⟨-, h9⟩ | ⟨h2, -⟩⟩
      · exact h9
      · omega
  · left
    exact decide_eq_false h
/-- The query of codes in memory. -/
theorem quC_there {W0 A4 A1 A2 A3 : World} {b p : Nat} {cs : List CD} {a7 : Option Addr} {c7 : Nat} (ho : W0.ownsRow b 45 5 (.slice a7 cs.length c7) cs.length (cdsC cs)) (hb : b ≤ W0.heap.size) (hp : p = W0.heap.size)
    (hA1 : A1 = W0.alloc (.cells #[.int .i64 0, .string ⟨#[97]⟩, .bool false, .bool false] 43)) (hA2 : A2 = A1.alloc (.cells #[.int .i64 6, .int .i64 0, .string ⟨#[]⟩, .int .i64 0, .int .i64 0] 45))
    (hA3 : A3 = A2.alloc (.cells #[.int .i64 1, .slice a7 cs.length c7, .slice (some ⟨p + 1, 0, none⟩) 1 1] 47)) (hA4 : A4 = A3.alloc (.cells #[.slice (some ⟨p, 0, none⟩) 1 1, .slice (some ⟨p + 1 + 1, 0, none⟩) 1 1, .int .i64 3, .bool false] 30)) :
    quV b (quC cs) A4 (.agg #[.slice (some ⟨p, 0, none⟩) 1 1, .slice (some ⟨p + 1 + 1, 0, none⟩) 1 1, .int .i64 3, .bool false]) ∧ Turn (fun _ => False) W0 A4 ∧ A4.rangeAt (p + 1 + 1 + 1) 0 [.slice (some ⟨p, 0, none⟩) 1 1, .slice (some ⟨p + 1 + 1, 0, none⟩) 1 1, .int .i64 3, .bool false] := by
  have T1 : Turn (fun _ => False) W0 A1 := by rw [hA1]; exact (Turn.refl _ _).alloc _
  have T2 : Turn (fun _ => False) A1 A2 := by rw [hA2]; exact (Turn.refl _ _).alloc _
  have T3 : Turn (fun _ => False) A2 A3 := by rw [hA3]; exact (Turn.refl _ _).alloc _
  have T4 : Turn (fun _ => False) A3 A4 := by rw [hA4]; exact (Turn.refl _ _).alloc _
  have s1 : A1.heap.size = p + 1 := by rw [hA1, World.size_alloc, hp]
  have s2 : A2.heap.size = p + 1 + 1 := by rw [hA2, World.size_alloc, s1]
  have s3 : A3.heap.size = p + 1 + 1 + 1 := by rw [hA3, World.size_alloc, s2]
  have o1 : A1.ownsRow b 43 4 (.slice (some ⟨p, 0, none⟩) 1 1) 1 (elsC [elC]) := by
    rw [hA1, hp]
    exact own_one W0 (xs := [.int .i64 0, .string ⟨#[97]⟩, .bool false, .bool false]) hb rfl
  have o2 : A2.ownsRow b 45 5 (.slice (some ⟨p + 1, 0, none⟩) 1 1) 1 (cdsC [numC]) := by
    rw [hA2, ← s1]
    exact own_one A1 (xs := [.int .i64 6, .int .i64 0, .string ⟨#[]⟩, .int .i64 0, .int .i64 0]) (by omega) rfl
  have o3 : A3.ownsRow b 47 3 (.slice (some ⟨p + 1 + 1, 0, none⟩) 1 1) 1 [.int .i64 1, .slice a7 cs.length c7, .slice (some ⟨p + 1, 0, none⟩) 1 1] := by
    rw [hA3, ← s2]
    exact own_one A2 (xs := [.int .i64 1, .slice a7 cs.length c7, .slice (some ⟨p + 1, 0, none⟩) 1 1]) (by omega) rfl
  refine ⟨⟨_, _, rfl, own_turn (own_turn (own_turn o1 T2 (fun _ _ f => f)) T3 (fun _ _ f => f)) T4 (fun _ _ f => f), _, own_turn o3 T4 (fun _ _ f => f), fun k c hk => ?_⟩, ((T1.trans T2).trans T3).trans T4, ?_⟩
  · cases k with
    | succ k => simp [quC] at hk
    | zero =>
      obtain rfl : (⟨1, cs, [numC]⟩ : CN) = c := by simpa [quC] using hk
      exact ⟨_, _, rfl, rfl, rfl, own_turn ho (((T1.trans T2).trans T3).trans T4) (fun _ _ f => f), own_turn (own_turn o2 T3 (fun _ _ f => f)) T4 (fun _ _ f => f)⟩
  · rw [hA4, ← s3]
    exact range_new A3 [.slice (some ⟨p, 0, none⟩) 1 1, .slice (some ⟨p + 1 + 1, 0, none⟩) 1 1, .int .i64 3, .bool false] 30
theorem text_size (A : List UInt8) : (⟨(hdC ++ A ++ tlC).toArray⟩ : ByteArray).size = A.length + 27 := by
  show (_ : List UInt8).toArray.size = _
  rw [List.size_toArray, List.length_append, List.length_append]
  show 14 + A.length + 13 = _
  omega
theorem str_mid {s : ByteArray} {i j : Nat} (h : i ≤ j) (h1 : j ≤ s.size) (W : World) : (Instr.slice 9 (.string s) (some (.int .i64 (i : Int))) (some (.int .i64 (j : Int))) none).run Tryz.prog W = .ok (.string (s.extract i j)) W := by
  have := run_slice_string_if (P := Tryz.prog) W 9 s .i64 .i64 (i : Int) (j : Int) Tryz.underlying9
  rw [this, if_pos ⟨by omega, by omega⟩, if_pos ⟨by omega, by omega⟩]
  simp
def hdP : ByteArray := ⟨#[115, 101, 113, 32, 65, 32, 97, 32, 119, 104, 101, 114, 101, 32, 40]⟩
def tlP : ByteArray := ⟨#[41, 32, 61, 32, 48, 32, 119, 105, 116, 104, 105, 110, 32, 51]⟩
/-- The text's middle, in brackets. -/
theorem in_brackets {t : ByteArray} {R : List IT} (ht : t = ⟨(hdC ++ bytesR R ++ tlC).toArray⟩) : (hdP ++ t.extract 14 (t.size - 13) ++ tlP).data.toList = hdC ++ bytesR (some (sg 40) :: (R ++ [some (sg 41)])) ++ tlC := by
  have hs : t.size = (bytesR R).length + 27 := by rw [ht]; exact text_size _
  have he : (t.extract 14 (t.size - 13)).data.toList = bytesR R := by
    rw [ByteArray.data_extract, Array.toList_extract, hs]
    have hd : t.data.toList = hdC ++ (bytesR R ++ tlC) := by rw [ht]; simp
    rw [hd]
    show List.take _ (List.drop 14 (hdC ++ (bytesR R ++ tlC))) = _
    rw [show List.drop 14 (hdC ++ (bytesR R ++ tlC)) = bytesR R ++ tlC from rfl, show (bytesR R).length + 27 - 13 - 14 = (bytesR R).length by omega, List.take_left]
  rw [ByteArray.data_append, ByteArray.data_append, Array.toList_append, Array.toList_append, he]
  show _ = hdC ++ ([40] ++ bytesR (R ++ [some (sg 41)])) ++ tlC
  rw [bytesR_append]
  simp [hdP, tlP, hdC, tlC, bytesR, sg]
set_option maxRecDepth 100000 in
set_option maxHeartbeats 8000000 in
theorem codes_walk (w : World) (hE : ErrAt w) (hT : TabAt w) {lv : Value} {l : List Int} (h : Mad.RowAt w lv l) (st : Int) : Calls Tryz.prog 4 #[lv, .int .i64 st] w fun y w' => y = .returned (.bool true) ∧ Turn (fun _ => False) w w' := by
  have AW := Lib.hid (awake_is w hE hT)
  have HE := Lib.hid (And.intro hE hT)
  obtain ⟨la, lb, lo, lc, rfl, hlc, hla, hlx⟩ := id h
  clear hE hT
  go_enter Tryz.func4, Tryz.ntmps4
  go_wp2_with fail
  with_reducible refine AW.out.mono ?_
  rintro y W0 ⟨rfl, T0⟩
  have H0 := h.turn T0
  have HT0 := Lib.hid T0
  clear h hlx hla T0 AW
  obtain ⟨b80, hb80⟩ : ∃ b, b = decide (80 < l.length) := ⟨_, rfl⟩
  have t0 : decide ((80 : Int) < (l.length : Int)) = b80 := by rw [hb80]; exact decide_eq_decide.2 (by omega)
  have t00 : decide (80 < l.length) = b80 := hb80.symm
  have HB80 := Lib.hid hb80
  clear hb80
  go_upto_if 21 with fail
  clear t0 t00
  go_cut [0] from 22 to 23 (fun v0 wx => wx = W0 ∧ ∃ l2, Mad.RowAt W0 v0 l2 ∧ l2.length ≤ 80)
  case first =>
    by_cases h80 : 80 < l.length
    · obtain rfl : b80 = true := by rw [HB80.out]; exact decide_eq_true h80
      have t1 : decide ((80 : Int) < (l.length : Int)) = true := decide_eq_true (Int.ofNat_lt.2 h80)
      have t2 : decide (80 < l.length) = true := decide_eq_true h80
      have c1 : (80 : Int) ≤ (lc : Int) := by omega
      have c2 : 80 ≤ lc := by omega
      go_wp2_with fail
      go_meet
      case rel =>
        refine ⟨rfl, l.take 80, ?_, by rw [List.length_take]; omega⟩
        obtain ⟨a, b, off, cap, e, hc, ha, hx⟩ := H0
        have e80 : (l.take 80).length = 80 := by rw [List.length_take]; omega
        have ee : la = a ∧ lc = cap := by injection e with z1 z2 z3; exact ⟨z1, z3⟩
        obtain ⟨rfl, rfl⟩ := ee
        exact ⟨la, b, off, lc, by rw [e80], by rw [e80]; omega, .inr (ha.resolve_left (fun e => by rw [e] at h80; exact absurd h80 (by decide))), fun j x hj => by
          have hj2 := (List.getElem?_eq_some_iff.1 hj).1
          rw [e80] at hj2
          rw [List.getElem?_take_of_lt hj2] at hj
          exact hx j x hj⟩
    · obtain rfl : b80 = false := by rw [HB80.out]; exact decide_eq_false h80
      have t1 : decide ((80 : Int) < (l.length : Int)) = false := decide_eq_false (fun h => h80 (Int.ofNat_lt.1 h))
      have t2 : decide (80 < l.length) = false := decide_eq_false h80
      go_wp2_with fail
      go_meet
      case rel => exact ⟨rfl, l, H0, by omega⟩
  case rest =>
  obtain ⟨rfl, l2, hrow, hl2⟩ := hcut
  rename World => W0
  obtain ⟨a2, b2, o2, c2, rfl, -⟩ := id hrow
  obtain ⟨rb, hrb⟩ : ∃ rb, rb = W0.heap.size := ⟨_, rfl⟩
  obtain ⟨W1, hW1⟩ : ∃ W1, W1 = W0.alloc (.cells #[.slice a2 l2.length c2, .int .i64 0] 38) := ⟨_, rfl⟩
  have T1 : Turn (fun _ => False) W0 W1 := by rw [hW1]; exact (Turn.refl _ W0).alloc _
  have R1 : Mad.RwAt W1 rb := ⟨_, l2, 0, by rw [hW1, hrb]; exact range_new W0 [.slice a2 l2.length c2, .int .i64 0] 38, by rw [hW1, hrb]; exact Blk.new W0 [.slice a2 l2.length c2, .int .i64 0] 38, Nat.zero_le _, by omega, fun U TU => hrow.old ((T1.more (fun _ _ f => f.elim)).trans (by rw [hrb] at TU; exact TU))⟩
  have s1 : W1.heap.size = rb + 1 := by rw [hW1, World.size_alloc, hrb]
  have HB0 := Lib.hid (And.intro hW1 hrb)
  have LOW := Lib.hid (show W0.heap.size ≤ rb by rw [hrb]; exact Nat.le_refl _)
  have TW1 := Lib.hid (HT0.out.trans T1)
  clear hrow hl2 hW1 hrb T1 H0
  obtain ⟨W2, hW2⟩ : ∃ W2, W2 = W1.alloc (.cells #[.string ⟨#[97]⟩, .string ⟨#[98, 101, 101]⟩, .string ⟨#[99, 50]⟩] 9) := ⟨_, rfl⟩
  have T2 : Turn (fun _ => False) W1 W2 := by rw [hW2]; exact (Turn.refl _ _).alloc _
  have N2 : Mad.NmsAt W2 (.slice (some ⟨rb + 1, 0, none⟩) nmsC.length 3) nmsC := ⟨rb + 1, 0, 3, rfl, by rw [hW2, ← s1]; exact Blk.new W1 [.string ⟨#[97]⟩, .string ⟨#[98, 101, 101]⟩, .string ⟨#[99, 50]⟩] 9, by rw [hW2, ← s1]; exact range_new W1 [.string ⟨#[97]⟩, .string ⟨#[98, 101, 101]⟩, .string ⟨#[99, 50]⟩] 9⟩
  have R2 := R1.turn (T2.more (fun _ _ f => f.elim))
  obtain ⟨m, hm, hm13⟩ := Mad.wrapNx (y := st) (n := 13) (by decide) (by decide)
  have CD := Lib.hid (show Calls Tryz.prog 12 #[.pointer (some ⟨rb, 0, none⟩), .slice (some ⟨rb + 1, 0, none⟩) 3 3, .int .i64 (m : Int)] W2 _ from Mad.codes_is R2 N2 ⟨by decide, by decide⟩ (steps := m) (by omega))
  have TW2 := Lib.hid (TW1.out.trans T2)
  have HW2 := Lib.hid hW2
  have SZ2 := Lib.hid (show W2.heap.size = rb + 2 by rw [hW2, World.size_alloc, s1])
  have hm' : (wrap64 (st.tmod 13 + 13)).tmod 13 = (m : Int) := hm
  clear R2 N2 T2 R1 hW2 hm
  go_upto_region 5 with fail
  rw [← HB0.out.1, ← HB0.out.2]
  go_wp2_with fail
  rw [← HW2.out]
  with_reducible refine CD.out.mono ?_
  rintro y W3 ⟨v, rfl, qs, ho, hlen, hdep, hok, R3, T3⟩
  obtain ⟨cs, hcs⟩ : ∃ cs, cs = qs.map cdQ := ⟨_, rfl⟩
  have hcl : cs.length = qs.length := by rw [hcs, List.length_map]
  rw [cdQ_cells, ← hcs, ← hcl] at ho
  have hdp : dpN cs 0 = some 1 := by rw [hcs, ← cdQ_dep]; exact hdep
  have hgd : ∀ c ∈ cs, CdG c := fun c hc => by
    rw [hcs] at hc
    obtain ⟨q, hq, rfl⟩ := List.mem_map.1 hc
    exact cdQ_good (hok q hq)
  have hle : cs.length ≤ 25 := by omega
  have HP := Lib.hid (And.intro hdp (And.intro hgd hle))
  have hT3 : Turn (fun _ => False) w W3 := (TW2.out).comp T3 (fun i hi q => by have := LOW.out; have := TW1.out.size; have := HT0.out.size; omega)
  have TW3 := Lib.hid hT3
  have SZ3 := Lib.hid (show W2.heap.size ≤ W3.heap.size from T3.size)
  obtain ⟨a7, c7, rfl, g7⟩ := own_slice ho
  clear hcs hcl hdep hok R3 T3 hlen hdp hgd hT3 CD
  obtain ⟨p, hp⟩ : ∃ p, p = W3.heap.size := ⟨_, rfl⟩
  obtain ⟨A1, hA1⟩ : ∃ A, A = W3.alloc (.cells #[.int .i64 0, .string ⟨#[97]⟩, .bool false, .bool false] 43) := ⟨_, rfl⟩
  obtain ⟨A2, hA2⟩ : ∃ A, A = A1.alloc (.cells #[.int .i64 6, .int .i64 0, .string ⟨#[]⟩, .int .i64 0, .int .i64 0] 45) := ⟨_, rfl⟩
  obtain ⟨A3, hA3⟩ : ∃ A, A = A2.alloc (.cells #[.int .i64 1, .slice a7 cs.length c7, .slice (some ⟨p + 1, 0, none⟩) 1 1] 47) := ⟨_, rfl⟩
  obtain ⟨A4, hA4⟩ : ∃ A, A = A3.alloc (.cells #[.slice (some ⟨p, 0, none⟩) 1 1, .slice (some ⟨p + 1 + 1, 0, none⟩) 1 1, .int .i64 3, .bool false] 30) := ⟨_, rfl⟩
  obtain ⟨hq, TA, RA⟩ := quC_there ho SZ3.out hp hA1 hA2 hA3 hA4
  obtain ⟨R, d, nt, dv, hpt, hfit⟩ := codes_print (tr_of HP.out.2.1 HP.out.1) (by omega)
  have HN := Lib.hid (And.intro nt (And.intro dv (And.intro hpt hfit)))
  have HO := Lib.hid (own_turn ho TA (fun _ _ f => f))
  have BA := Lib.hid (show W2.heap.size ≤ A4.heap.size from Nat.le_trans SZ3.out TA.size)
  have HQ := Lib.hid hq
  have HRA := Lib.hid RA
  have TA4 := Lib.hid (TW3.out.trans TA)
  have HA := Lib.hid (And.intro hp (And.intro hA1 (And.intro hA2 (And.intro hA3 hA4))))
  clear ho hq TA RA hp hA1 hA2 hA3 hA4 nt dv hpt hfit hle
  go_upto_region 7 with fail
  rw [← HA.out.1, ← HA.out.2.1, ← HA.out.2.2.1, ← HA.out.2.2.2.1, ← HA.out.2.2.2.2]
  clear HA
  have z0 : A4.cell? ⟨p + 1 + 1 + 1, 0, none⟩ = some (.slice (some ⟨p, 0, none⟩) 1 1) := HRA.out 0 _ rfl
  have z1 : A4.cell? ⟨p + 1 + 1 + 1, 1, none⟩ = some (.slice (some ⟨p + 1 + 1, 0, none⟩) 1 1) := HRA.out 1 _ rfl
  have z2 : A4.cell? ⟨p + 1 + 1 + 1, 2, none⟩ = some (.int .i64 3) := HRA.out 2 _ rfl
  have z3 : A4.cell? ⟨p + 1 + 1 + 1, 3, none⟩ = some (.bool false) := HRA.out 3 _ rfl
  generalize p + 1 + 1 + 1 = P at *
  have PR := Lib.hid (print_is A4 HQ.out HN.out.2.2.2 (HE.out.1.turn TA4.out id) (HE.out.2.turn TA4.out (fun _ _ f => f)))
  go_wp2_with fail
  with_reducible refine PR.out.mono ?_
  rintro y W5 ⟨rfl, T5⟩
  clear PR
  obtain ⟨t, ht⟩ : ∃ t, t = printT (quC cs) := ⟨_, rfl⟩
  rw [← ht]
  have ht2 : t = ⟨(hdC ++ bytesR R ++ tlC).toArray⟩ := by rw [ht]; exact HN.out.2.2.1
  have hts : t.size = (bytesR R).length + 27 := by rw [ht2]; exact text_size _
  have hsz : t.size ≤ 4000000000000 := by rw [ht]; exact print_size HN.out.2.2.2
  have h1 : 1 ≤ (bytesR R).length := by obtain ⟨x, r, e, -⟩ := HN.out.1.hd; rw [e]; simp
  have HS := Lib.hid (And.intro ht2 (And.intro hts (And.intro hsz h1)))
  have u1 : decide ((t.size : Int) < 28) = false := decide_eq_false (by omega)
  have u2 : decide (t.size < 28) = false := decide_eq_false (by omega)
  have T05 := Lib.hid (TA4.out.trans T5)
  have B5 := Lib.hid (Nat.le_trans BA.out T5.size)
  replace z0 := T5.cell id z0
  replace z1 := T5.cell id z1
  replace z2 := T5.cell id z2
  replace z3 := T5.cell id z3
  have HQ5 := Lib.hid (HQ.out.turn T5)
  have HO5 := Lib.hid (own_turn HO.out T5 (fun _ _ f => f))
  have PA := Lib.hid (parse_is W5 t (Nat.le_trans hsz (by decide)) (HE.out.1.turn T05.out id))
  have CP := Lib.hid (codes_parse (t := t) HN.out.1 HN.out.2.1 (by rw [ht2]))
  clear T5 ht ht2 hts hsz h1 HQ HO
  go_wp2_with fail
  with_reducible refine PA.out.mono ?_
  rintro y W6 ⟨x, rfl, hq, T6⟩
  clear PA
  have T06 := Lib.hid (T05.out.trans T6)
  have B6 := Lib.hid (Nat.le_trans B5.out T6.size)
  replace z0 := T6.cell id z0
  replace z1 := T6.cell id z1
  replace z2 := T6.cell id z2
  replace z3 := T6.cell id z3
  have HQ6 := Lib.hid (HQ5.out.turn T6)
  have HO6 := Lib.hid (own_turn HO5.out T6 (fun _ _ f => f))
  clear HQ5 HO5 T6
  have SN := Lib.hid (snd_dp cs 0 HP.out.2.1)
  have HF := Lib.hid (show ∀ c ∈ cs, CdFit c from (HN.out.2.2.2.c ⟨1, cs, [numC]⟩ (by simp [quC])).f.1)
  rcases CP.out with hpar | ⟨n12, hpar⟩
  · rw [hpar] at hq ⊢
    have hqq := hq
    obtain ⟨ev, cv, rfl, e1, e2⟩ := hq
    obtain ⟨a8, c8, rfl, -⟩ := own_slice e1
    obtain ⟨a9, c9, rfl, -⟩ := cns_slice e2
    obtain ⟨W7, hW7⟩ : ∃ W, W = W6.alloc (.cells #[.slice a8 1 c8, .slice a9 1 c9, .int .i64 3, .bool false] 30) := ⟨_, rfl⟩
    have T7 : Turn (fun _ => False) W6 W7 := by rw [hW7]; exact (Turn.refl _ _).alloc _
    have y0 : W7.cell? ⟨W6.heap.size, 0, none⟩ = some (.slice a8 1 c8) := by rw [hW7]; exact cell_new rfl rfl
    have y1 : W7.cell? ⟨W6.heap.size, 1, none⟩ = some (.slice a9 1 c9) := by rw [hW7]; exact cell_new rfl rfl
    have y2 : W7.cell? ⟨W6.heap.size, 2, none⟩ = some (.int .i64 3) := by rw [hW7]; exact cell_new rfl rfl
    have y3 : W7.cell? ⟨W6.heap.size, 3, none⟩ = some (.bool false) := by rw [hW7]; exact cell_new rfl rfl
    have T07 := Lib.hid (T06.out.trans T7)
    have B7 := Lib.hid (Nat.le_trans B6.out T7.size)
    replace z0 := T7.cell id z0
    replace z1 := T7.cell id z1
    replace z2 := T7.cell id z2
    replace z3 := T7.cell id z3
    have SM := Lib.hid (show Calls Tryz.prog 16 #[.agg #[.slice a8 1 c8, .slice a9 1 c9, .int .i64 3, .bool false], .agg #[.slice (some ⟨p, 0, none⟩) 1 1, .slice (some ⟨p + 1 + 1, 0, none⟩) 1 1, .int .i64 3, .bool false]] W7 _ from rsame_is (hqq.turn T7) (HQ6.out.turn T7) HN.out.2.2.2.lens.1 HN.out.2.2.2.lens.2)
    have HO7 := Lib.hid (own_turn HO6.out T7 (fun _ _ f => f))
    have HW7 := Lib.hid hW7
    clear e1 e2 hqq T7 hW7 HO6 HQ6 CP
    dsimp only [quL]
    rw [show (((quC cs).window : Nat) : Int) = 3 from rfl, show (quC cs).elems.length = 1 from rfl, show (quC cs).conds.length = 1 from rfl, show (quC cs).byKey = false from rfl]
    go_upto_region 11 with fail
    rw [← HW7.out]
    clear HW7
    generalize W6.heap.size = M at *
    go_wp2_with fail
    with_reducible refine SM.out.mono ?_
    rintro y W8 ⟨rfl, T8⟩
    have T08 := Lib.hid (T07.out.trans T8)
    have HO8 := Lib.hid (own_turn HO7.out T8 (fun _ _ f => f))
    have B8 := Lib.hid (Nat.le_trans B7.out T8.size)
    clear SM T8 z0 z1 z2 z3 y0 y1 y2 y3 HO7
    -- the codes with one value more
    have TE : Turn (fun _ => False) W8 (W8.alloc (.cells #[] 45)) := (Turn.refl _ _).alloc _
    have VE : cdsV W8.heap.size [] (W8.alloc (.cells #[] 45)) (.slice (some ⟨W8.heap.size, 0, none⟩) 0 0) := own_empty W8 (Nat.le_refl _)
    have VC : cdsV W2.heap.size cs (W8.alloc (.cells #[] 45)) (.slice a7 cs.length c7) := own_turn HO8.out TE (fun _ _ f => f)
    obtain ⟨v1, X1, R1, V1, T1⟩ := append_cds VE VC TE.size (by have := HP.out.2.2; simp; omega)
    have T1' : Turn (fun _ => False) W8 X1 := TE.comp T1 (fun k hk q => by
      have e : W8.heap.size = k := by injection q
      omega)
    have TF : Turn (fun _ => False) X1 (X1.alloc (.cells (CD.cells ⟨6, 1, ⟨#[]⟩, 0⟩).toArray 45)) := (Turn.refl _ _).alloc _
    obtain ⟨v2, X2, R2, V2, T2⟩ := append_cds (V1.turn TF (fun _ _ f => f)) (one_cds X1 ⟨6, 1, ⟨#[]⟩, 0⟩ (Nat.le_refl _)) (Nat.le_trans T1'.size TF.size) (by have := HP.out.2.2; simp; omega)
    have TX : Turn (fun _ => False) W8 X2 := (T1'.trans TF).comp T2 (fun k hk q => by have := own_above V1 q; omega)
    have RUN1 := Lib.hid R1
    have RUN2 := Lib.hid R2
    have V2' := Lib.hid (show cdsV W8.heap.size (cs ++ [⟨6, 1, ⟨#[]⟩, 0⟩]) X2 v2 from V2)
    have T0X := Lib.hid (T08.out.trans TX)
    have HOX := Lib.hid (own_turn HO8.out TX (fun _ _ f => f))
    obtain ⟨a10, c10, rfl, -⟩ := own_slice V2
    clear TE VE VC R1 V1 T1 T1' TF R2 V2 T2 TX
    go_upto_region 15 with (first | (refine rl_append_run (by rfl) _ _ _ (by rfl) (by rfl) (by rfl) RUN1.out ?_) | (refine rl_append_run (by rfl) _ _ _ (by rfl) (by rfl) (by rfl) RUN2.out ?_))
    -- the text's middle in brackets
    obtain ⟨n13, hn13⟩ : ∃ n, n = t.size - 13 := ⟨_, rfl⟩
    have b1 : n13 ≤ t.size := by omega
    have b2 : 14 ≤ n13 := by have := HS.out.2.1; have := HS.out.2.2.2; omega
    have e13 : wrap64 ((t.size : Int) - 13) = (n13 : Int) := by have := HS.out.2.2.1; have := HS.out.2.1; unfold wrap64; omega
    have i1 : (0 : Int) ≤ (n13 : Int) ∧ (n13 : Int) ≤ (t.size : Int) := ⟨by omega, by omega⟩
    have i2 : (14 : Int) ≤ (n13 : Int) := by omega
    obtain ⟨mid, hmid⟩ : ∃ s, s = t.extract 14 n13 := ⟨_, rfl⟩
    have hms : mid.size ≤ 4000000000000 := by rw [hmid, ByteArray.size_extract]; have := HS.out.2.2.1; omega
    have SL : ∀ W, (Instr.slice 9 (.string t) (some (.int .i64 14)) (some (.int .i64 (n13 : Int))) none).run Tryz.prog W = .ok (.string mid) W := fun W => by rw [hmid]; exact str_mid (i := 14) b2 b1 W
    have x1 : (9223372036854775807 < 15 + mid.size) = False := eq_false (by omega)
    have x2 : (9223372036854775807 < 15 + mid.size + 14) = False := eq_false (by omega)
    have htx : (hdP ++ mid ++ tlP).data.toList = hdC ++ bytesR (some (sg 40) :: (R ++ [some (sg 41)])) ++ tlC := by rw [hmid, hn13]; exact in_brackets HS.out.1
    have hD2 : D 0 (d + 1) (toksR (some (sg 40) :: (R ++ [some (sg 41)]))) cs := by
      have e : toksR (some (sg 40) :: (R ++ [some (sg 41)])) = sg 40 :: (toksR R ++ [sg 41]) := by
        show _ :: toksR _ = _
        rw [toksR_append]
        rfl
      rw [e]
      exact (D.par (o := sg 40) (z := sg 41) rfl HN.out.2.1 rfl).p0.s0
    have CP2 := Lib.hid (codes_parse (t := hdP ++ mid ++ tlP) (par_neat HN.out.1) hD2 htx)
    have hsz2 : (hdP ++ mid ++ tlP).size ≤ 140737488355328 := by
      rw [ByteArray.size_append, ByteArray.size_append]
      show 15 + mid.size + 14 ≤ _
      omega
    have PA := Lib.hid (parse_is X2 (hdP ++ mid ++ tlP) hsz2 (HE.out.1.turn T0X.out id))
    clear htx hD2 hsz2 hms hn13 hmid b1 b2
    unfold hdP tlP at PA CP2
    go_wp2_with fail
    with_reducible refine PA.out.mono ?_
    rintro y X3 ⟨x, rfl, hq2, T9⟩
    have hpb : (parseB (⟨#[115, 101, 113, 32, 65, 32, 97, 32, 119, 104, 101, 114, 101, 32, 40]⟩ ++ mid ++ ⟨#[41, 32, 61, 32, 48, 32, 119, 105, 116, 104, 105, 110, 32, 51]⟩)).2.2 = 0 ∨ (parseB (⟨#[115, 101, 113, 32, 65, 32, 97, 32, 119, 104, 101, 114, 101, 32, 40]⟩ ++ mid ++ ⟨#[41, 32, 61, 32, 48, 32, 119, 105, 116, 104, 105, 110, 32, 51]⟩)).2.2 = 12 := by
      rcases CP2.out with q | ⟨n, q⟩
      · left; rw [q]
      · right; rw [q]
    generalize parseB (⟨#[115, 101, 113, 32, 65, 32, 97, 32, 119, 104, 101, 114, 101, 32, 40]⟩ ++ mid ++ ⟨#[41, 32, 61, 32, 48, 32, 119, 105, 116, 104, 105, 110, 32, 51]⟩) = PB at *
    obtain ⟨q2, n2, e2n⟩ := PB
    dsimp only at hpb hq2
    obtain ⟨ev2, cv2, rfl, f1, f2⟩ := hq2
    obtain ⟨a11, c11, rfl, -⟩ := own_slice f1
    obtain ⟨a12, c12, rfl, -⟩ := cns_slice f2
    dsimp only [quL]
    obtain ⟨X4, hX4⟩ : ∃ W, W = X3.alloc (.cells #[.slice a11 q2.elems.length c11, .slice a12 q2.conds.length c12, .int .i64 (q2.window : Int), .bool q2.byKey] 30) := ⟨_, rfl⟩
    have TZ : Turn (fun _ => False) X2 X4 := T9.trans (by rw [hX4]; exact (Turn.refl _ _).alloc _)
    have T04 := Lib.hid (T0X.out.trans TZ)
    have HOZ := Lib.hid (own_turn HOX.out TZ (fun _ _ f => f))
    have VZ := Lib.hid (V2'.out.turn TZ (fun _ _ f => f))
    have HX4 := Lib.hid hX4
    have HPB := Lib.hid hpb
    clear f1 f2 T9 TZ hX4 PA CP2 hpb
    go_upto_region 16 with fail
    rw [← HX4.out]
    clear HX4
    have S1 := Lib.hid (fun W' (T : Turn (fun _ => False) X4 W') => sound_is (own_turn HOZ.out T (fun _ _ f => f)) (Nat.le_trans HP.out.2.2 (by decide)) HF.out (HE.out.1.turn (T04.out.trans T) id))
    have S2 := Lib.hid (fun W' (T : Turn (fun _ => False) X4 W') => sound_is (VZ.out.turn T (fun _ _ f => f)) (by have := HP.out.2.2; simp; omega) (fun c hc => by
      rcases List.mem_append.1 hc with hc | hc
      · exact HF.out c hc
      · obtain rfl := List.mem_singleton.1 hc; exact ⟨by decide, by decide, by decide⟩) (HE.out.1.turn (T04.out.trans T) id))
    have S3 := Lib.hid (fun W' (T : Turn (fun _ => False) X4 W') => sound_is (b := 0) (l := []) (World.ownsRow_nil W' 0 45 5) (by decide) (fun c hc => by simp at hc) (HE.out.1.turn (T04.out.trans T) id))
    have hs1 : sndT cs 0 = true := by
      have := SN.out
      rw [show ((0 : Nat) : Int) = 0 from rfl] at this
      rw [this, HP.out.1]
      rfl
    rw [hs1] at S1
    rw [codes_more HP.out.1 HP.out.2.1, show (([] : List CD) ++ cs ++ [(⟨6, 1, ⟨#[]⟩, 0⟩ : CD)]).length = cs.length + 1 from by simp] at S2
    rw [show sndT [] 0 = false from rfl] at S3
    have hlen2 : (cs ++ [(⟨6, 1, ⟨#[]⟩, 0⟩ : CD)]).length = cs.length + 1 := by simp
    have hne : 0 < cs.length := by
      rcases Nat.eq_zero_or_pos cs.length with h0 | h0
      · have := List.eq_nil_of_length_eq_zero h0
        have h2 := HP.out.1
        rw [this] at h2
        cases h2
      · exact h0
    obtain ⟨ini, x, hix⟩ := snoc_of (l := cs) (by omega)
    have hlast := codes_last (l := ini) (x := x) (by rw [← hix]; exact HP.out.1) (by rw [← hix]; exact HP.out.2.1)
    have hil : cs.length = ini.length + 1 := by rw [hix]; simp
    obtain ⟨gb, rfl⟩ := g7 hne
    have S4 := Lib.hid (fun W' (T : Turn (fun _ => False) X4 W') => sound_is (b := W2.heap.size) (v := .slice (some ⟨gb, 0, none⟩) ini.length c7) (l := ini) (by
      have h := own_prefix (own_turn HOZ.out T (fun _ _ f => f)) (m := ini.length) (by omega) hne
      rw [hix, cdsC_take] at h
      exact h) (by have := HP.out.2.2; omega) (fun c hc => HF.out c (by rw [hix]; simp [hc])) (HE.out.1.turn (T04.out.trans T) id))
    obtain ⟨c0, -, -, -, -⟩ := cds_cells' HOZ.out rfl (i := ini.length) (c := x) (by rw [hix]; simp)
    have w1' : wrap64 ((cs.length : Int) - 1) = (ini.length : Int) := by have := HP.out.2.2; unfold wrap64; omega
    have j1 : (0 : Int) ≤ (ini.length : Int) := Int.natCast_nonneg _
    have j2 : (ini.length : Int) < (cs.length : Int) := by omega
    have j3 : (ini.length : Int) ≤ (c7 : Int) := by
      have := HOZ.out.2
      rcases this with ⟨e, -⟩ | ⟨g, cc, cur, e, -, -, hc, -⟩
      · cases e
      · injection e with e1 e2 e3
        subst e3
        omega
    have j4 : ini.length < cs.length := by omega
    obtain ⟨B1, hB1⟩ : ∃ b, b = ((cs.length : Int) == 1) := ⟨_, rfl⟩
    obtain ⟨B4, hB4⟩ : ∃ b, b = sndT ini 0 := ⟨_, rfl⟩
    obtain ⟨B9, hB9⟩ : ∃ b, b = (x.op == 9) := ⟨_, rfl⟩
    rw [← hB4] at S4
    have hfin : B4 = false ∨ B9 = true := by
      rcases hlast with q | q
      · left; rw [hB4, q]
      · right; rw [hB9, q]; rfl
    have u10 : ((cs.length : Int) == 1) = B1 := hB1.symm
    have u11 : (x.op == 9) = B9 := hB9.symm
    have HFN := Lib.hid hfin
    obtain ⟨xo, xn, xv, xf⟩ := x
    dsimp only at c0 u11
    obtain ⟨ei, hei⟩ : ∃ e : Int, e = (e2n : Int) := ⟨_, rfl⟩
    rw [← hei]
    have hei2 : (ei == 0) = true ∨ ((ei == 0) = false ∧ (ei == 12) = true) := by
      rcases HPB.out with q | q
      · left; rw [hei, q]; rfl
      · right; rw [hei, q]; exact ⟨rfl, rfl⟩
    have HEI := Lib.hid hei2
    clear hei hei2 hfin hlast hB1 hB4 hB9 hs1 hix hil hne SN g7
    go_wp2_with fail
    with_reducible refine (S1.out _ (Turn.refl _ _)).mono ?_
    rintro y Y1 ⟨rfl, U1⟩
    have HU1 := Lib.hid U1
    have c01 := U1.cell id c0
    clear U1 S1
    go_wp2_with fail
    with_reducible refine (S2.out _ HU1.out).mono ?_
    rintro y Y2 ⟨rfl, U2⟩
    have HU2 := Lib.hid (HU1.out.trans U2)
    clear U2 S2
    go_wp2_with fail
    with_reducible refine (S3.out _ HU2.out).mono ?_
    rintro y Y3 ⟨rfl, U3⟩
    have HU3 := Lib.hid (HU2.out.trans U3)
    clear U3 S3 c01
    cases B1 with
    | true =>
      rcases HEI.out with v1e | ⟨v1e, v2e⟩
      · go_wp2_with fail
        go_ret
        exact ⟨rfl, T04.out.trans HU3.out⟩
      · go_wp2_with fail
        go_ret
        exact ⟨rfl, T04.out.trans HU3.out⟩
    | false =>
      go_wp2_with fail
      with_reducible refine (S4.out _ HU3.out).mono ?_
      rintro y Y4 ⟨rfl, U4⟩
      have HU4 := Lib.hid (HU3.out.trans U4)
      have c04 := HU4.out.cell id c0
      clear U4 S4 c0
      cases B4 with
      | false =>
        rcases HEI.out with v1e | ⟨v1e, v2e⟩
        · go_wp2_with fail
          go_ret
          exact ⟨rfl, T04.out.trans HU4.out⟩
        · go_wp2_with fail
          go_ret
          exact ⟨rfl, T04.out.trans HU4.out⟩
      | true =>
        obtain rfl : B9 = true := by rcases HFN.out with q | q; (cases q); exact q
        rcases HEI.out with v1e | ⟨v1e, v2e⟩
        · go_wp2_with fail
          go_ret
          exact ⟨rfl, T04.out.trans HU4.out⟩
        · go_wp2_with fail
          go_ret
          exact ⟨rfl, T04.out.trans HU4.out⟩
  · rw [hpar] at hq ⊢
    obtain ⟨ev, cv, rfl, e1, e2⟩ := hq
    obtain ⟨a8, c8, rfl, -⟩ := own_slice e1
    obtain ⟨a9, c9, rfl, -⟩ := cns_slice e2
    have SO := Lib.hid (fun W' (T : Turn (fun _ => False) W6 W') => sound_is (own_turn HO6.out T (fun _ _ f => f)) (Nat.le_trans HP.out.2.2 (by decide)) HF.out (HE.out.1.turn (T06.out.trans T) id))
    have hs1 : sndT cs 0 = true := by
      have := SN.out
      rw [show ((0 : Nat) : Int) = 0 from rfl] at this
      rw [this, HP.out.1]
      rfl
    rw [hs1] at SO
    dsimp only [quL]
    clear e1 e2 hs1 SN CP
    go_wp2_with fail
    have TT := (Turn.refl (fun _ => False) W6).alloc (.cells #[.slice a8 zq.elems.length c8, .slice a9 zq.conds.length c9, .int .i64 (zq.window : Int), .bool zq.byKey] 30)
    with_reducible refine (SO.out _ TT).mono ?_
    rintro y W7 ⟨rfl, T7⟩
    have FIN := Lib.hid (T06.out.trans (TT.trans T7))
    clear TT T7
    go_wp2_with fail
    go_ret
    exact ⟨rfl, FIN.out⟩
end Go.Proofs.YtadogobdlcionaaGreatDoor
namespace Go.Proofs.YtadogobdlcionaaGreatDoor
open Go.ChangeShapes Go.WideShapes Go.ChangeAt Go.RowKit
set_option linter.unusedVariables false
theorem open_rowat {H : Type} {enc : TypeId × Value → H} {W : World} {a : Option Addr} {len cap : Nat} {d : DataW H} {p : List MemPlace} (h : DataW.Trod enc Tryz.prog W 0 (fun _ => true) true 22 (.slice a len cap) d p) : ∃ l, Mad.RowAt W (.slice a len cap) l := by
  obtain ⟨fuel, hf⟩ := h
  rcases open_ints Tryz.underlying22 Tryz.underlying3 (by kernel_rfl) hf with ⟨hcs, _⟩ | ⟨x, l, c, zs, hcs, _, hl, hm, hz, _, hcell, hwz⟩
  · simp [Value.cells] at hcs
    obtain ⟨rfl, rfl, rfl⟩ := hcs
    exact ⟨[], none, 0, 0, 0, rfl, Nat.le_refl _, .inl rfl, fun j x hj => by simp at hj⟩
  · simp [Value.cells] at hcs
    obtain ⟨rfl, rfl, rfl⟩ := hcs
    have hz : zs.length = cap := by simpa using hz
    have hlen : (zs.take len).length = len := by rw [List.length_take]; omega
    by_cases h0 : zs = []
    · subst h0
      have : len = 0 := by simp at hz; omega
      subst this
      exact ⟨[], some x, 0, 0, cap, rfl, Nat.zero_le _, .inl rfl, fun j x hj => by simp at hj⟩
    · obtain ⟨b, off, rfl, hc⟩ := ints_at hcell (by cases zs with | nil => exact absurd rfl h0 | cons _ _ => simp)
      refine ⟨zs.take len, some ⟨b, off, none⟩, b, off, cap, by rw [hlen], by rw [hlen]; exact hl, .inr rfl, fun j x hj => ?_⟩
      have hj2 := (List.getElem?_eq_some_iff.1 hj).1
      rw [hlen] at hj2
      rw [List.getElem?_take_of_lt hj2] at hj
      rw [hc j (by omega)]
      have : zs.getD j 0 = x := by simp [List.getD, hj]
      rw [this]
theorem laidOut : laidOutB Tryz.prog = true := by kernel_rfl
end Go.Proofs.YtadogobdlcionaaGreatDoor
