/-
  What the shards tell, in memory; many matches put, one after the other.
-/
import Derived.Test.YtepmealhnnoahaaRf
namespace Go.Proofs.Ytepmealhnnoahaa
open Go.ChangeShapes Go.WideShapes Go.ChangeAt Go.RowKit
set_option linter.unusedVariables false
structure OutV where
  hits : List Ht
  lost : List Int
def IntsAt (w : World) (N : Nat → Prop) (v : Value) (l : List Int) : Prop :=
  ∃ (a : Option Addr) (b off cap : Nat), v = .slice a l.length cap ∧ (l = [] ∨ (a = some ⟨b, off, none⟩ ∧ Blk w b 3 ∧ ¬ N b)) ∧ ∀ (j : Nat) (x : Int), l[j]? = some x → w.cell? ⟨b, off + j, none⟩ = some (.int .i64 x)
def OutsAt (w : World) (N : Nat → Prop) (v : Value) (Os : List OutV) : Prop :=
  ∃ (a : Option Addr) (b off cap : Nat), v = .slice a Os.length cap ∧ (Os = [] ∨ (a = some ⟨b, off, none⟩ ∧ Blk w b 68)) ∧ ∀ (k : Nat) (o : OutV), Os[k]? = some o → ∃ (vh vl : Value) (ua : Option Addr) (un uc : Nat) (da : Option Addr) (dn dc : Nat), w.rangeAt b (off + k * 4) [vh, vl, .slice ua un uc, .slice da dn dc] ∧ RowAt w vh o.hits ∧ IntsAt w N vl o.lost
/-- The hits, each in blocks of which none is in N. -/
def HitsAt (w : World) (N : Nat → Prop) (Os : List OutV) : Prop := ∀ o ∈ Os, ∀ x ∈ o.hits, FoundAt w N (.slice x.sa x.sn x.sc) (.slice x.ra x.rn x.rc) x.f
theorem FoundAt.next {Z N N' : Nat → Prop} {w w' : World} {vs vr : Value} {f : Fnd} (h : FoundAt w N vs vr f) (T : Turn Z w w') (hz : ∀ k, k < w.heap.size → Z k → N k) (hN : ∀ k, N' k → N k ∨ w.heap.size ≤ k) : FoundAt w' N' vs vr f :=
  ((h.room).turn T (fun k hk q => .inl (hz k hk q))).weak hN
theorem HitsAt.next {Z N N' : Nat → Prop} {w w' : World} {Os : List OutV} (h : HitsAt w N Os) (T : Turn Z w w') (hz : ∀ k, k < w.heap.size → Z k → N k) (hN : ∀ k, N' k → N k ∨ w.heap.size ≤ k) : HitsAt w' N' Os :=
  fun o ho x hx => (h o ho x hx).next T hz hN
/-- .. behind a turn of blocks of which none is of the types that lie there. -/
theorem HitsAt.typ {Z N : Nat → Prop} {w w' : World} {Os : List OutV} (h : HitsAt w N Os) (T : Turn Z w w') (hz : ∀ k, MTy w k → ¬ Z k) : HitsAt w' N Os :=
  fun o ho x hx => ((h o ho x hx).typed.turn T (fun k _ q => .inr (fun t => hz k t q))).weak (fun k q => .inl q)
theorem IntsAt.next {Z N N' : Nat → Prop} {w w' : World} {v : Value} {l : List Int} (h : IntsAt w N v l) (T : Turn Z w w') (hz : ∀ k, Blk w k 3 → ¬ N k → ¬ Z k) (hN : ∀ k, N' k → N k ∨ w.heap.size ≤ k) : IntsAt w' N' v l := by
  obtain ⟨a, b, off, cap, e, h1, h2⟩ := h
  refine ⟨a, b, off, cap, e, h1.imp id (fun q => ⟨q.1, q.2.1.turn T (hz b q.2.1 q.2.2), fun n => (hN b n).elim q.2.2 (fun s => by have := q.2.1.lt; omega)⟩), fun j x hj => ?_⟩
  obtain ⟨_, q2, q3⟩ := h1.resolve_left (fun e => by rw [e] at hj; simp at hj)
  exact T.cell (hz b q2 q3) (h2 j x hj)
theorem RowAt.next {Z : Nat → Prop} {w w' : World} {v : Value} {l : List Ht} (h : RowAt w v l) (T : Turn Z w w') (hz : ∀ k, Blk w k 73 → ¬ Z k) : RowAt w' v l := h.keep (fun k hk => T.block k hk.lt (hz k hk))
theorem OutsAt.next {Z N N' : Nat → Prop} {w w' : World} {v : Value} {Os : List OutV} (h : OutsAt w N v Os) (T : Turn Z w w') (h68 : ∀ k, Blk w k 68 → ¬ Z k) (h73 : ∀ k, Blk w k 73 → ¬ Z k) (h3 : ∀ k, Blk w k 3 → ¬ N k → ¬ Z k) (hN : ∀ k, N' k → N k ∨ w.heap.size ≤ k) : OutsAt w' N' v Os := by
  obtain ⟨a, b, off, cap, e, h1, h2⟩ := h
  refine ⟨a, b, off, cap, e, h1.imp id (fun q => ⟨q.1, q.2.turn T (h68 b q.2)⟩), fun k o hk => ?_⟩
  obtain ⟨vh, vl, ua, un, uc, da, dn, dc, hr, hh, hl⟩ := h2 k o hk
  obtain ⟨_, q2⟩ := h1.resolve_left (fun e => by rw [e] at hk; simp at hk)
  exact ⟨vh, vl, ua, un, uc, da, dn, dc, range_turn hr T (h68 b q2), hh.next T h73, hl.next T h3 hN⟩
section
variable {w W W' : World} {d mb base : Nat} {qu ou : Int} {cnt cnt' m m' : Nat} {S S' : Int → Option (List Fnd × Bool)} {P P1 P2 : Nat → Prop} {gbase gb : Nat} {l l' : List (Int × Int)}
theorem Aft.refl (h : DAt w d mb base qu ou cnt m S P) (hg : GoneAt w gbase gb l) (hgp : ∀ k, P k → k ≠ gb ∧ ¬ GB w gb k) : Aft w w d mb base qu ou cnt m S P P gbase gb l :=
  ⟨h, hg, Turn.refl _ _, fun k p => .inl p, fun k g => .inl g, hgp, fun _ _ _ => rfl, hgp⟩
theorem Aft.step (h : Aft w W d mb base qu ou cnt m S P P1 gbase gb l) (k : Aft W W' d mb base qu ou cnt' m' S' P1 P2 gbase gb l') : Aft w W' d mb base qu ou cnt' m' S' P P2 gbase gb l' :=
  ⟨k.desk, k.gone, h.turn.comp k.turn (fun i hi q => by
    rcases q with q | q | q
    · exact (h.own i q).elim (fun q => .inl q) (fun q => by omega)
    · exact .inr (.inl q)
    · exact (h.gbs i q).elim (fun q => .inr (.inr q)) (fun q => by omega)), fun i p => (k.own i p).elim (h.own i) (fun q => .inr (Nat.le_trans h.turn.size q)), fun i g => (k.gbs i g).elim (h.gbs i) (fun q => .inr (Nat.le_trans h.turn.size q)), k.apart, fun i p t => by
    have e1 := h.ms i p t
    have t1 : MTy W i := by
      rcases t with ⟨cs, t⟩ | ⟨cs, t⟩ | ⟨cs, t⟩
      · exact .inl ⟨cs, e1.trans t⟩
      · exact .inr (.inl ⟨cs, e1.trans t⟩)
      · exact .inr (.inr ⟨cs, e1.trans t⟩)
    by_cases p1 : P1 i
    · exact (k.ms i p1 t1).trans e1
    · refine (k.turn.block i t1.lt (fun q => ?_)).trans e1
      rcases q with q | q | q
      · exact p1 q
      · exact (h.ap0 i p).1 q
      · exact (h.gbs i q).elim (h.ap0 i p).2 (fun q => by have := t.lt; omega), h.ap0⟩
/-- A turn of blocks that are none of these. -/
theorem Aft.quiet {Z : Nat → Prop} (h : Aft w W d mb base qu ou cnt m S P P1 gbase gb l) (T : Turn Z W W') (hP : ∀ k, P1 k → ¬ Z k) (hg : ¬ Z gb) (hG : ∀ k, GB W gb k → ¬ Z k) (hw : ∀ k, k < w.heap.size → ¬ Z k) : Aft w W' d mb base qu ou cnt m S P P1 gbase gb l :=
  ⟨h.desk.turn T hP, h.gone.turn T hg hG, h.turn.comp T (fun k hk q => absurd q (hw k hk)), h.own, fun k g => h.gbs k (g.turn h.gone T hg), fun k p => ⟨(h.apart k p).1, fun g => (h.apart k p).2 (g.turn h.gone T hg)⟩, fun k p t => (T.block k (Nat.lt_of_lt_of_le t.lt h.turn.size) (hw k t.lt)).trans (h.ms k p t), h.ap0⟩
theorem Aft.none (h : Aft w W d mb base qu ou cnt m S P P1 gbase gb l) (T : Turn (fun _ => False) W W') : Aft w W' d mb base qu ou cnt m S P P1 gbase gb l := h.quiet T (fun _ _ q => q) id (fun _ _ q => q) (fun _ _ q => q)
/-- What is turned by the desk, from here on. -/
def Own3 (P : Nat → Prop) (w : World) (gb k : Nat) : Prop := P k ∨ k = gb ∨ GB w gb k
theorem Aft.own3 (h : Aft w W d mb base qu ou cnt m S P P1 gbase gb l) : ∀ k, Own3 P1 W gb k → Own3 P w gb k ∨ w.heap.size ≤ k := fun k q => by
  rcases q with q | q | q
  · exact (h.own k q).imp (fun q => .inl q) id
  · exact .inl (.inr (.inl q))
  · exact (h.gbs k q).imp (fun q => .inr (.inr q)) id
theorem Aft.no (h : Aft w W d mb base qu ou cnt m S P P1 gbase gb l) {b : Nat} {t : TypeId} (hb : Blk W b t) (ht : t ≠ 82 ∧ t ≠ 71 ∧ t ≠ 46 ∧ t ≠ 3 ∧ t ≠ 38 ∧ t ≠ 54) : ¬ Own3 P1 W gb b := by
  rintro (q | q | q)
  · exact h.desk.no hb ⟨ht.1, ht.2.1, ht.2.2.1, ht.2.2.2.1, ht.2.2.2.2.1⟩ q
  · exact hb.ne h.gone.gbl.2 ht.2.2.2.2.2 q
  · exact hb.ne (h.gone.blk q).1 ht.2.2.2.2.1 rfl
/-- What the shards told stays, whatever the desk does. -/
theorem OutsAt.aft {v : Value} {Os : List OutV} (ho : OutsAt w (Own3 P w gb) v Os) (h0 : Aft w w d mb base qu ou cnt m S P P gbase gb l) (h : Aft w W d mb base qu ou cnt' m' S' P P1 gbase gb l') : OutsAt W (Own3 P1 W gb) v Os :=
  ho.next h.turn (fun k hb => h0.no hb (by decide)) (fun k hb => h0.no hb (by decide)) (fun k _ hn => hn) h.own3
theorem HitsAt.aft {Os : List OutV} (ho : HitsAt w (Own3 P w gb) Os) (h : Aft w W d mb base qu ou cnt' m' S' P P1 gbase gb l') : HitsAt W (Own3 P1 W gb) Os :=
  ho.next h.turn (fun k _ q => q) h.own3
end
def putsD (ou : Int) (S : Int → Option (List Fnd × Bool)) (H : List Ht) : Int → Option (List Fnd × Bool) := H.foldl (putD ou) S
def putsG (ou : Int) : (Int → Option (List Fnd × Bool)) → List Ht → List (Int × Int)
  | _, [] => []
  | S, x :: H => putG ou S x ++ putsG ou (putD ou S x) H
theorem putsD_snoc (ou : Int) (S : Int → Option (List Fnd × Bool)) (H : List Ht) (x : Ht) : putsD ou S (H ++ [x]) = putD ou (putsD ou S H) x := by unfold putsD; rw [List.foldl_append]; rfl
theorem putsG_snoc (ou : Int) : ∀ (H : List Ht) (S : Int → Option (List Fnd × Bool)) (x : Ht), putsG ou S (H ++ [x]) = putsG ou S H ++ putG ou (putsD ou S H) x
  | [], S, x => by simp [putsG, putsD]
  | y :: H, S, x => by
    simp only [List.cons_append, putsG]
    rw [putsG_snoc ou H, List.append_assoc]
    rfl
def refSum (H : List Ht) : Nat := (H.map (fun x => x.f.refs.length)).sum
theorem putG_le (ou : Int) (S : Int → Option (List Fnd × Bool)) (x : Ht) : (putG ou S x).length ≤ x.f.refs.length := by
  unfold putG
  split
  · exact Nat.le_refl _
  · split
    · exact Nat.le_refl _
    · exact Nat.zero_le _
theorem putsG_le (ou : Int) : ∀ (H : List Ht) (S : Int → Option (List Fnd × Bool)), (putsG ou S H).length ≤ refSum H
  | [], S => Nat.le_refl _
  | x :: H, S => by
    have h1 := putG_le ou S x
    have h2 := putsG_le ou H (putD ou S x)
    simp only [putsG, List.length_append, refSum, List.map_cons, List.sum_cons] at h2 ⊢
    omega
theorem refSum_app (H K : List Ht) : refSum (H ++ K) = refSum H + refSum K := by simp [refSum]
theorem mergeN_len (lt : Ht → Ht → Bool) : ∀ n S, (mergeN lt n S).length ≤ n
  | 0, S => Nat.le_refl _
  | n + 1, S => by
    rw [mergeN]
    split
    · exact Nat.zero_le _
    · have := mergeN_len lt n (by assumption)
      simp only [List.length_cons]
      omega
/-- What is merged came from one of the rows. -/
theorem mergeN_mem (lt : Ht → Ht → Bool) : ∀ n S x, x ∈ mergeN lt n S → ∃ l ∈ S, x ∈ l
  | 0, S, x, h => by simp [mergeN] at h
  | n + 1, S, x, h => by
    rw [mergeN] at h
    split at h
    · simp at h
    · rename_i y S' e
      have hy : ∃ (i : Nat) (l : List Ht), S[i]? = some (y :: l) ∧ S' = S.set i l := by
        unfold stepM at e
        split at e
        · rename_i a b e2
          split at e
          · cases e
          · cases e
            exact ⟨_, _, e2, rfl⟩
        · cases e
      obtain ⟨i, l, hi, rfl⟩ := hy
      simp only [List.mem_cons] at h
      rcases h with rfl | h
      · exact ⟨_, List.mem_of_getElem? hi, by simp⟩
      · obtain ⟨l', hl', hx⟩ := mergeN_mem lt n _ x h
        rcases List.mem_or_eq_of_mem_set hl' with h1 | rfl
        · exact ⟨l', h1, hx⟩
        · exact ⟨_, List.mem_of_getElem? hi, by simp [hx]⟩
/-- What Merge has made, and what lies there. -/
structure Mgd (w : World) (kb lb : Nat) (L : List (List Ht)) : Prop where
  it : ∃ (hb : Nat) (f : Nat → Value), w.cell? ⟨kb, 0, none⟩ = some (.slice (some ⟨hb, 0, none⟩) L.length L.length) ∧ (∀ k, k < L.length → w.cell? ⟨hb, k, none⟩ = some (f k)) ∧ ∀ (k : Nat) (l : List Ht), L[k]? = some l → RowAt w (f k) l
  le : w.cell? ⟨lb, 0, none⟩ = some (.func (.func 38) #[] #[])
  bl : Blk w lb 101
theorem mgd_of {w w' : World} {lb hb kb : Nat} {L : List (List Ht)} {v : Value} (h : MRel w lb hb kb L.length L 0 v w') : Mgd w' kb lb L := by
  obtain ⟨i, f, rfl, hi, hg, c0, c1, cf, fr, ro, T, hz, hB⟩ := h
  exact ⟨⟨hb, f, c1, cf, fun k l hl => rowAt_own (ro k l (by have := (List.getElem?_eq_some_iff.1 hl).1; omega) hl)⟩, c0, hB.1⟩
theorem merge_gives (n : Nat) (hn : 1 ≤ n) {w0 : World} {kb lb : Nat} {L : List (List Ht)} (hL : L.length ≤ 1000000) (h : Mgd w0 kb lb L) :
    GivesT 66 n Try.prog 45 #[.pointer (some ⟨kb, 0, none⟩), .pointer (some ⟨lb, 0, none⟩)] (fun x : Ht => #[x.val]) KH (mergeN ltH (total L) L) w0 := fun lo J W hW hJ hY h0 => by
  obtain ⟨⟨hb, f, c1, cf, hr⟩, c0, bl⟩ := h
  have kp : ∀ {k j v}, w0.cell? ⟨k, j, none⟩ = some v → W.cell? ⟨k, j, none⟩ = some v := fun h => (World.cell?_of_block (w := w0) (hW.block _ (block_lt_of_cell h))).trans h
  exact merge1_in n hn lo kb lb hb L.length L f rfl hL J W (by
    obtain ⟨cs, q⟩ := bl
    exact ⟨cs, (hW.block _ (Array.getElem?_eq_some_iff.1 q).1).trans q⟩) hJ hY h0 (kp c1) (kp c0) (fun k hk => kp (cf k hk)) (fun k l hl => (hr k l hl).keep fun j hj => hW.block j hj.lt)
end Go.Proofs.Ytepmealhnnoahaa
