/-
  Queries: what was parsed, and printed, is parsed the same.
-/
import Derived.Test.YtadogobdlcionaaGreatDoorKav
import Derived.Test.YtadogobdlcionaaGreatDoorKal
set_option linter.unusedSimpArgs false
namespace Go.Proofs.YtadogobdlcionaaGreatDoor
open Go.ChangeShapes Go.WideShapes Go.ChangeAt Go.RowKit Go.Shelf
set_option linter.unusedVariables false
variable {M : Nat}
/-- A keyword's token. -/
def kw (t : ByteArray) : AT := ⟨1, t, 0⟩
theorem kw_good {t : ByteArray} (h : t = seqT ∨ t = whereT ∨ t = andT ∨ t = withinT ∨ t = byT ∨ t = keyT) : GoodA (kw t) := by
  rcases h with rfl | rfl | rfl | rfl | rfl | rfl
  · exact word_good (c := 115) (r := [101, 113]) rfl (by decide) (by decide)
  · exact word_good (c := 119) (r := [104, 101, 114, 101]) rfl (by decide) (by decide)
  · exact word_good (c := 97) (r := [110, 100]) rfl (by decide) (by decide)
  · exact word_good (c := 119) (r := [105, 116, 104, 105, 110]) rfl (by decide) (by decide)
  · exact word_good (c := 98) (r := [121]) rfl (by decide) (by decide)
  · exact word_good (c := 107) (r := [101, 121]) rfl (by decide) (by decide)
def comR (E : List EL) : List IT := E.flatMap fun x => some (sg 44) :: none :: elR x
theorem comR_cons (x : EL) (E : List EL) : comR (x :: E) = some (sg 44) :: none :: (elR x ++ comR E) := by simp [comR]
def andR (P : List (CN × List IT)) : List IT := P.flatMap fun p => none :: some (kw andT) :: none :: p.2
theorem andR_cons (p : CN × List IT) (P : List (CN × List IT)) : andR (p :: P) = none :: some (kw andT) :: none :: (p.2 ++ andR P) := by simp [andR]
def whR : List (CN × List IT) → List IT
  | [] => []
  | p :: P => none :: some (kw whereT) :: none :: (p.2 ++ andR P)
def byR (b : Bool) : List IT := if b then [none, some (kw byT), none, some (kw keyT)] else []
def tlR (w : Nat) (b : Bool) : List IT := none :: some (kw withinT) :: none :: some (numA w) :: byR b
/-- A query's items. -/
def quR (x : EL) (E : List EL) (P : List (CN × List IT)) (w : Nat) (b : Bool) : List IT := some (kw seqT) :: none :: (elR x ++ (comR E ++ (whR P ++ tlR w b)))
structure QuG (M : Nat) (x : EL) (E : List EL) (P : List (CN × List IT)) (w : Nat) : Prop where
  hx : ElG x
  hE : ∀ y ∈ E, ElG y
  hz : ∀ y ∈ x :: E, y.var.size ≤ M
  hP : ∀ p ∈ P, ∃ n, n ≤ 200 ∧ CnG M p.1 n p.2
  hw : w < 9223372036854775808
theorem toks_n (R : List IT) : toksR (none :: R) = toksR R := rfl
theorem toks_s (a : AT) (R : List IT) : toksR (some a :: R) = a :: toksR R := rfl
theorem bytes_n (R : List IT) : bytesR (none :: R) = 32 :: bytesR R := rfl
theorem bytes_s (a : AT) (R : List IT) : bytesR (some a :: R) = a.t.data.toList ++ bytesR R := rfl
theorem tl_chain {w : Nat} (h : w < 9223372036854775808) (b : Bool) : Chain (tlR w b) := by
  refine ⟨kw_good (by simp), (neut32 _).fol _, num_good h, ?_, ?_⟩
  · cases b with
    | false => exact Fol.nil _
    | true => exact (neut32 _).fol _
  · cases b with
    | false => trivial
    | true => exact ⟨kw_good (by simp), (neut32 _).fol _, kw_good (by simp), Fol.nil _, trivial⟩
theorem and_chain : ∀ (P : List (CN × List IT)) (R : List IT), (∀ p ∈ P, ∃ n, n ≤ 200 ∧ CnG M p.1 n p.2) → Chain R → Neut (bytesR R) → Chain (andR P ++ R) ∧ Neut (bytesR (andR P ++ R))
  | [], R, _, hc, hn => ⟨hc, hn⟩
  | p :: P, R, h, hc, hn => by
    obtain ⟨h1, h2⟩ := and_chain P R (fun q hq => h q (List.mem_cons_of_mem _ hq)) hc hn
    obtain ⟨n, -, G⟩ := h p (by simp)
    rw [andR_cons]
    refine ⟨⟨kw_good (by simp), (neut32 _).fol _, ?_⟩, neut32 _⟩
    show Chain ((p.2 ++ andR P) ++ R)
    rw [List.append_assoc]
    exact G.nt.ch _ h1 h2
theorem wh_chain {P : List (CN × List IT)} {R : List IT} (h : ∀ p ∈ P, ∃ n, n ≤ 200 ∧ CnG M p.1 n p.2) (hc : Chain R) (hn : Neut (bytesR R)) : Chain (whR P ++ R) ∧ Neut (bytesR (whR P ++ R)) := by
  cases P with
  | nil => exact ⟨hc, hn⟩
  | cons p P =>
    obtain ⟨h1, h2⟩ := and_chain P R (fun q hq => h q (List.mem_cons_of_mem _ hq)) hc hn
    obtain ⟨n, -, G⟩ := h p (by simp)
    refine ⟨⟨kw_good (by simp), (neut32 _).fol _, ?_⟩, neut32 _⟩
    show Chain ((p.2 ++ andR P) ++ R)
    rw [List.append_assoc]
    exact G.nt.ch _ h1 h2
theorem com_chain : ∀ (E : List EL) (R : List IT), (∀ x ∈ E, ElG x) → Chain R → Neut (bytesR R) → Chain (comR E ++ R) ∧ Neut (bytesR (comR E ++ R))
  | [], R, _, hc, hn => ⟨hc, hn⟩
  | x :: E, R, h, hc, hn => by
    obtain ⟨h1, h2⟩ := com_chain E R (fun q hq => h q (List.mem_cons_of_mem _ hq)) hc hn
    rw [comR_cons]
    refine ⟨⟨sg_good (by decide), (neut32 _).fol _, ?_⟩, fun c r e => ?_⟩
    · show Chain ((elR x ++ comR E) ++ R)
      rw [List.append_assoc]
      exact (el_neat (h x (by simp))).ch _ h1 h2
    · have e : 44 :: _ = c :: r := e
      injection e with e _
      subst e
      decide
theorem qu_chain {x : EL} {E : List EL} {P : List (CN × List IT)} {w : Nat} (h : QuG M x E P w) (b : Bool) : Chain (quR x E P w b) := by
  have h1 := wh_chain h.hP (tl_chain h.hw b) (neut32 _)
  have h2 := com_chain E _ h.hE h1.1 h1.2
  exact ⟨kw_good (by simp), (neut32 _).fol _, (el_neat h.hx).ch _ h2.1 h2.2⟩
theorem cat_com : ∀ (E : List EL) (i : Nat), i ≠ 0 → catT seqB.data.toList comB.data.toList i (E.map elT) = bytesR (comR E)
  | [], i, _ => rfl
  | x :: E, i, hi => by
    rw [List.map_cons, catT, if_neg hi, cat_com E (i + 1) (by omega), comR_cons]
    show _ = [44] ++ 32 :: bytesR (elR x ++ comR E)
    rw [bytesR_append, el_bytes]
    simp
theorem cat_and : ∀ (P : List (CN × List IT)) (i : Nat), i ≠ 0 → (∀ p ∈ P, ∃ n, n ≤ 200 ∧ CnG M p.1 n p.2) → catT whB.data.toList andB.data.toList i ((P.map (·.1)).map cnT) = bytesR (andR P)
  | [], i, _, _ => rfl
  | p :: P, i, hi, h => by
    obtain ⟨n, -, G⟩ := h p (by simp)
    rw [List.map_cons, List.map_cons, catT, if_neg hi, cat_and P (i + 1) (by omega) (fun q hq => h q (List.mem_cons_of_mem _ hq)), andR_cons]
    show _ = 32 :: ([97, 110, 100] ++ 32 :: bytesR (p.2 ++ andR P))
    rw [bytesR_append, G.by_]
    simp
theorem el_ok {x : EL} (h : ElG x) : elOk x = true := by
  unfold elOk
  have := name_of h.g h.nm
  have : nameT x.var = true := this
  simp [h.ty, this]
/-- The text of such a query. -/
theorem qu_text {x : EL} {E : List EL} {P : List (CN × List IT)} {w : Nat} (h : QuG M x E P w) (b : Bool) : printOk ⟨x :: E, P.map (·.1), w, b⟩ = true ∧ printT ⟨x :: E, P.map (·.1), w, b⟩ = ⟨(bytesR (quR x E P w b)).toArray⟩ := by
  have hok : printOk ⟨x :: E, P.map (·.1), w, b⟩ = true := by
    unfold printOk
    have h1 : (x :: E).all elOk = true := by
      rw [List.all_eq_true]
      intro y hy
      rcases List.mem_cons.1 hy with rfl | hy
      · exact el_ok h.hx
      · exact el_ok (h.hE y hy)
    have h2 : (P.map (·.1)).all cnOk = true := by
      rw [List.all_eq_true]
      intro y hy
      obtain ⟨p, hp, rfl⟩ := List.mem_map.1 hy
      obtain ⟨n, -, G⟩ := h.hP p hp
      exact G.ok
    dsimp only
    rw [h1, h2]
    simp
  refine ⟨hok, ?_⟩
  unfold printT
  rw [if_pos hok]
  dsimp only
  have e1 : elsT (x :: E) = bytesR (some (kw seqT) :: none :: (elR x ++ comR E)) := by
    unfold elsT
    rw [List.map_cons, catT, if_pos rfl, cat_com E 1 (by decide)]
    show _ = [115, 101, 113] ++ 32 :: bytesR (elR x ++ comR E)
    rw [bytesR_append, el_bytes]
    simp
  have e2 : cnsT (P.map (·.1)) = bytesR (whR P) := by
    unfold cnsT
    cases P with
    | nil => rfl
    | cons p P =>
      obtain ⟨n, -, G⟩ := h.hP p (by simp)
      rw [List.map_cons, List.map_cons, catT, if_pos rfl, cat_and P 1 (by decide) (fun q hq => h.hP q (List.mem_cons_of_mem _ hq))]
      show _ = 32 :: ([119, 104, 101, 114, 101] ++ 32 :: bytesR (p.2 ++ andR P))
      rw [bytesR_append, G.by_]
      simp
  have e3 : wiB.data.toList ++ Lib.itoa w ++ (if b = true then byB.data.toList else []) = bytesR (tlR w b) := by
    show _ = 32 :: ([119, 105, 116, 104, 105, 110] ++ 32 :: ((Lib.itoa w).toArray.toList ++ bytesR (byR b)))
    cases b with
    | false => simp [byR, bytesR]
    | true => simp [byR, bytesR, kw]
  congr 2
  rw [e1, e2, List.append_assoc, List.append_assoc, ← List.append_assoc wiB.data.toList, e3]
  unfold quR
  simp only [bytes_n, bytes_s, bytesR_append, List.append_assoc, List.cons_append]
section
variable {s : ByteArray} {L : List (Nat × Tok)} {e : Nat}
theorem has_head {i : Nat} {a : AT} {q : List AT} (h : (abL s L).drop i = a :: q) (t : ByteArray) : hasB s L t i = decide (a.t = t) := by
  obtain ⟨x, lx, ex⟩ := ab_at (drop_at h 0)
  rw [Nat.add_zero] at lx
  unfold hasB
  rw [lx]
  dsimp only
  rw [show textOf s x = a.t from congrArg AT.t ex]
theorem elems_reads : ∀ (E : List EL) (f i : Nat) (l0 : List EL) (a : AT) (q : List AT), (∀ x ∈ E, ElG x) → E.length < f → (abL s L).drop i = toksR (comR E) ++ (a :: q) → a.t ≠ commaT → elemsF s L e f i l0 = .ok (l0 ++ E) (i + (toksR (comR E)).length)
  | _, 0, _, _, _, _, _, hf, _, _ => absurd hf (by omega)
  | [], f + 1, i, l0, a, q, _, _, hd, ha => by
    have hd : (abL s L).drop i = a :: q := hd
    rw [elemsF, has_head hd, if_neg (by simpa using ha)]
    simp [comR, toksR]
  | x :: E, f + 1, i, l0, a, q, h, hf, hd, ha => by
    have et : toksR (comR (x :: E)) = sg 44 :: (toksR (elR x) ++ toksR (comR E)) := by
      rw [comR_cons]
      simp only [toks_n, toks_s, toksR_append]
    rw [et] at hd ⊢
    rw [elemsF, has_head (a := sg 44) (q := toksR (elR x) ++ toksR (comR E) ++ (a :: q)) hd, if_pos (by decide)]
    have hd2 : (abL s L).drop (i + 1) = toksR (elR x) ++ (toksR (comR E) ++ (a :: q)) := by rw [← List.drop_drop, hd]; simp
    rw [elem_reads (h x (by simp)) hd2]
    show elemsF s L e f (i + 1 + (toksR (elR x)).length) (l0 ++ [x]) = _
    rw [elems_reads E f _ _ a q (fun y hy => h y (List.mem_cons_of_mem _ hy)) (by simp at hf; omega) (drop_on hd2) ha]
    simp only [List.length_cons, List.length_append, List.append_assoc, List.singleton_append]
    congr 1
    omega
theorem elems_sound (hg : ∀ a ∈ abL s L, GoodA a ∧ a.t.size ≤ M) : ∀ (f i : Nat) (l0 E : List EL) (j : Nat), elemsF s L e f i l0 = .ok E j → ∃ E2, E = l0 ++ E2 ∧ (∀ x ∈ E2, ElG x ∧ x.var.size ≤ M) ∧ j = i + (toksR (comR E2)).length
  | 0, _, _, _, _, h => by cases h
  | f + 1, i, l0, E, j, h => by
    rw [elemsF] at h
    by_cases hc : hasB s L commaT i = true
    · rw [if_pos hc] at h
      cases hx : elemB s L e (i + 1) with
      | out => rw [hx] at h; cases h
      | stop a r => rw [hx] at h; cases h
      | ok x k =>
        rw [hx] at h
        obtain ⟨gx, hk⟩ := elem_sound hg hx
        obtain ⟨E2, e1, e2, e3⟩ := elems_sound hg f k _ E j h
        refine ⟨x :: E2, by rw [e1]; simp, fun y hy => ?_, ?_⟩
        · rcases List.mem_cons.1 hy with rfl | hy
          · exact gx
          · exact e2 y hy
        · rw [comR_cons, e3, hk]
          simp only [toks_n, toks_s, toksR_append, List.length_cons, List.length_append]
          omega
    · rw [if_neg hc] at h
      injection h with h1 h2
      exact ⟨[], by rw [← h1]; simp, fun x hx => by simp at hx, by rw [← h2]; simp [comR, toksR]⟩
theorem conds_reads : ∀ (P : List (CN × List IT)) (f i : Nat) (l0 : List CN) (a : AT) (q : List AT), (∀ p ∈ P, ∃ n, n ≤ 200 ∧ CnG M p.1 n p.2) → P.length < f → (abL s L).drop i = toksR (andR P) ++ (a :: q) → a.t ≠ andT → opA a = 0 → condsF s L e f i l0 = .ok (l0 ++ P.map (·.1)) (i + (toksR (andR P)).length)
  | _, 0, _, _, _, _, _, hf, _, _, _ => absurd hf (by omega)
  | [], f + 1, i, l0, a, q, _, _, hd, ha, _ => by
    have hd : (abL s L).drop i = a :: q := hd
    rw [condsF, has_head hd, if_neg (by simpa using ha)]
    simp [andR, toksR]
  | p :: P, f + 1, i, l0, a, q, h, hf, hd, ha, h0 => by
    have et : toksR (andR (p :: P)) = kw andT :: (toksR p.2 ++ toksR (andR P)) := by
      rw [andR_cons]
      simp only [toks_n, toks_s, toksR_append]
    rw [et] at hd ⊢
    rw [condsF, has_head (a := kw andT) (q := toksR p.2 ++ toksR (andR P) ++ (a :: q)) hd, if_pos (by decide)]
    have hd2 : (abL s L).drop (i + 1) = toksR p.2 ++ (toksR (andR P) ++ (a :: q)) := by rw [← List.drop_drop, hd]; simp
    obtain ⟨n, -, G⟩ := h p (by simp)
    have hns : noSign (toksR (andR P) ++ (a :: q)) := by
      intro b r eb
      cases P with
      | nil => have eb : a :: q = b :: r := eb; injection eb with eb _; subst eb; exact h0
      | cons p2 P2 =>
        rw [andR_cons] at eb
        have eb : kw andT :: _ = b :: r := eb
        injection eb with eb _
        subst eb
        decide
    rw [G.rd s L e (i + 1) _ hd2 hns]
    show condsF s L e f (i + 1 + (toksR p.2).length) (l0 ++ [p.1]) = _
    rw [conds_reads P f _ _ a q (fun y hy => h y (List.mem_cons_of_mem _ hy)) (by simp at hf; omega) (drop_on hd2) ha h0]
    simp only [List.length_cons, List.length_append, List.append_assoc, List.singleton_append, List.map_cons]
    congr 1
    omega
theorem conds_sound (hM : 20 ≤ M) (hL : L.length ≤ 200) (hg : ∀ a ∈ abL s L, GoodA a ∧ a.t.size ≤ M) : ∀ (f i : Nat) (l0 C : List CN) (j : Nat), i ≤ L.length → condsF s L e f i l0 = .ok C j → ∃ P : List (CN × List IT), C = l0 ++ P.map (·.1) ∧ (∀ p ∈ P, ∃ n, n ≤ 200 ∧ CnG M p.1 n p.2) ∧ i + (toksR (andR P)).length ≤ j ∧ j ≤ L.length
  | 0, _, _, _, _, _, h => by cases h
  | f + 1, i, l0, C, j, hi, h => by
    rw [condsF] at h
    by_cases hc : hasB s L andT i = true
    · rw [if_pos hc] at h
      have hlt := has_lt hc
      cases hx : condB s L e 0 (i + 1) with
      | out => rw [hx] at h; cases h
      | stop a r => rw [hx] at h; cases h
      | ok x k =>
        rw [hx] at h
        obtain ⟨hk, R, G⟩ := cond_sound hM hg (by omega) hx
        have hkl := (cond_le hx (by omega)).2
        obtain ⟨P, e1, e2, e3, e4⟩ := conds_sound hM hL hg f k _ C j hkl h
        refine ⟨(x, R) :: P, by rw [e1]; simp, fun y hy => ?_, ?_, e4⟩
        · rcases List.mem_cons.1 hy with rfl | hy
          · exact ⟨_, by omega, G⟩
          · exact e2 y hy
        · rw [andR_cons]
          have := G.le
          simp only [toks_n, toks_s, toksR_append, List.length_cons, List.length_append]
          omega
    · rw [if_neg hc] at h
      injection h with h1 h2
      exact ⟨[], by rw [← h1]; simp, fun x hx => by simp at hx, by rw [← h2]; simp [andR, toksR], by omega⟩
theorem tail_out {E : List EL} {C : List CN} {i : Nat} : tailB s L e E C i ≠ .out := by
  unfold tailB
  split
  · split
    · simp
    · split
      · split
        · unfold restB; split <;> simp
        · simp
      · unfold restB; split <;> simp
  · simp
theorem query_out : queryB s L e ≠ .out := by
  unfold queryB
  split
  · unfold elemsB
    cases hx : elemB s L e 1 with
    | out => exact absurd hx elem_out
    | stop a r => simp [PA.bind]
    | ok x k =>
      show PA.bind (elemsF s L e (L.length + 1) k [x]) _ ≠ _
      cases hy : elemsF s L e (L.length + 1) k [x] with
      | out => exact absurd hy (elems_out _ _ _ (by omega))
      | stop a r => simp [PA.bind]
      | ok E i =>
        show PA.bind (condsB s L e i) _ ≠ _
        cases hz : condsB s L e i with
        | out =>
          unfold condsB at hz
          split at hz
          · cases hw : condB s L e 0 (i + 1) with
            | out => exact absurd hw cond_out
            | stop a r => rw [hw] at hz; cases hz
            | ok c m => rw [hw] at hz; exact absurd hz (conds_out _ _ _ (by omega))
          · cases hz
        | stop a r => simp [PA.bind]
        | ok C m => exact tail_out
  · simp
theorem read_stop (f : Nat) : ∀ (tg : Tg) (nest i a : Nat), readF s L e f tg nest i ≠ .stop a 0 := by
  induction f with
  | zero => intro tg nest i a h; cases h
  | succ f IH =>
    intro tg nest i a h
    cases tg with
    | su =>
      rw [readF] at h
      cases hq : readF s L e f .pr nest i with
      | out => rw [hq] at h; cases h
      | stop b r => rw [hq] at h; injection h with h1 h2; subst h2; exact IH _ _ _ _ hq
      | ok l j => rw [hq] at h; exact IH _ _ _ _ h
    | pr =>
      rw [readF] at h
      cases hq : readF s L e f .un nest i with
      | out => rw [hq] at h; cases h
      | stop b r => rw [hq] at h; injection h with h1 h2; subst h2; exact IH _ _ _ _ hq
      | ok l j => rw [hq] at h; exact IH _ _ _ _ h
    | lp b l0 =>
      cases b with
      | true =>
        rw [readF.eq_def] at h
        dsimp only at h
        by_cases hc : (if true = true then (1 : Int) else 3) ≤ opAt s L i ∧ opAt s L i ≤ (if true = true then 2 else 5)
        · rw [if_pos hc] at h
          change (match readF s L e f .pr nest (i + 1) with | .ok r j => _ | r => r) = _ at h
          cases hq : readF s L e f .pr nest (i + 1) with
          | out => rw [hq] at h; cases h
          | stop b r => rw [hq] at h; injection h with h1 h2; subst h2; exact IH _ _ _ _ hq
          | ok l j => rw [hq] at h; exact IH _ _ _ _ h
        · rw [if_neg hc] at h; cases h
      | false =>
        rw [readF.eq_def] at h
        dsimp only at h
        by_cases hc : (if false = true then (1 : Int) else 3) ≤ opAt s L i ∧ opAt s L i ≤ (if false = true then 2 else 5)
        · rw [if_pos hc] at h
          change (match readF s L e f .un nest (i + 1) with | .ok r j => _ | r => r) = _ at h
          cases hq : readF s L e f .un nest (i + 1) with
          | out => rw [hq] at h; cases h
          | stop b r => rw [hq] at h; injection h with h1 h2; subst h2; exact IH _ _ _ _ hq
          | ok l j => rw [hq] at h; exact IH _ _ _ _ h
        · rw [if_neg hc] at h; cases h
    | un =>
      rw [readF] at h
      split at h
      · injection h with h1 h2; exact absurd h2 (by decide)
      · split at h
        · split at h
          · injection h with h1 h2; exact absurd h2 (by decide)
          · split at h
            · cases h
            · exact IH _ _ _ _ h
        · split at h
          · split at h
            · injection h with h1 h2; exact absurd h2 (by decide)
            · split at h
              · split at h
                · cases h
                · injection h with h1 h2; exact absurd h2 (by decide)
              · exact IH _ _ _ _ h
          · split at h
            · split at h
              · cases h
              · injection h with h1 h2; exact absurd h2 (by decide)
            · split at h
              · cases h
              · split at h
                · split at h
                  · cases h
                  · injection h with h1 h2; exact absurd h2 (by decide)
                · injection h with h1 h2; exact absurd h2 (by decide)
theorem elem_stop {i a : Nat} : elemB s L e i ≠ .stop a 0 := by
  unfold elemB
  split
  · intro h; injection h with h1 h2; exact absurd h2 (by decide)
  · split
    · intro h; injection h with h1 h2; exact absurd h2 (by decide)
    · intro h; cases h
theorem cond_stop {i a : Nat} : condB s L e 0 i ≠ .stop a 0 := by
  unfold condB
  cases h1 : sumB s L e 0 i with
  | out => simp
  | stop b r => intro h; injection h with h2 h3; subst h3; exact read_stop _ _ _ _ _ h1
  | ok l k =>
    dsimp only
    split
    · intro h; injection h with h1 h2; exact absurd h2 (by decide)
    · cases h1 : sumB s L e 0 (k + 1) with
      | out => simp
      | stop b r => intro h; injection h with h2 h3; subst h3; exact read_stop _ _ _ _ _ h1
      | ok l k => simp
theorem elems_stop : ∀ (f i : Nat) (l : List EL) (a : Nat), elemsF s L e f i l ≠ .stop a 0
  | 0, _, _, _ => by simp [elemsF]
  | f + 1, i, l, a => by
    rw [elemsF]
    split
    · cases h1 : elemB s L e (i + 1) with
      | out => simp [PA.bind]
      | stop b r => intro h; injection h with h2 h3; subst h3; exact elem_stop h1
      | ok x k => exact elems_stop f k _ a
    · simp
theorem conds_stop : ∀ (f i : Nat) (l : List CN) (a : Nat), condsF s L e f i l ≠ .stop a 0
  | 0, _, _, _ => by simp [condsF]
  | f + 1, i, l, a => by
    rw [condsF]
    split
    · cases h1 : condB s L e 0 (i + 1) with
      | out => simp [PA.bind]
      | stop b r => intro h; injection h with h2 h3; subst h3; exact cond_stop h1
      | ok x k => exact conds_stop f k _ a
    · simp
theorem tail_stop {E : List EL} {C : List CN} {i a : Nat} : tailB s L e E C i ≠ .stop a 0 := by
  unfold tailB restB
  split
  · split
    · simp
    · split
      · split
        · split <;> simp
        · simp
      · split <;> simp
  · simp
theorem query_stop0 {a : Nat} : queryB s L e ≠ .stop a 0 := by
  unfold queryB
  split
  · unfold elemsB
    cases hx : elemB s L e 1 with
    | out => simp [PA.bind]
    | stop a r => intro h; injection h with h2 h3; subst h3; exact elem_stop hx
    | ok x k =>
      show PA.bind (elemsF s L e (L.length + 1) k [x]) _ ≠ _
      cases hy : elemsF s L e (L.length + 1) k [x] with
      | out => simp [PA.bind]
      | stop a r => intro h; injection h with h2 h3; subst h3; exact elems_stop _ _ _ _ hy
      | ok E i =>
        show PA.bind (condsB s L e i) _ ≠ _
        cases hz : condsB s L e i with
        | out => simp [PA.bind]
        | stop a r =>
          intro h; injection h with h2 h3; subst h3
          unfold condsB at hz
          split at hz
          · cases hw : condB s L e 0 (i + 1) with
            | out => rw [hw] at hz; cases hz
            | stop a r => rw [hw] at hz; injection hz with h2 h3; subst h3; exact cond_stop hw
            | ok c m => rw [hw] at hz; exact conds_stop _ _ _ _ hz
          · cases hz
        | ok C m => exact tail_stop
  · simp
theorem tail_sound (hg : ∀ a ∈ abL s L, GoodA a ∧ a.t.size ≤ M) {E : List EL} {C : List CN} {i j : Nat} {q : QU} (h : tailB s L e E C i = .ok q j) : ∃ w b, q = ⟨E, C, w, b⟩ ∧ w < 9223372036854775808 ∧ i + (toksR (tlR w b)).length ≤ L.length := by
  unfold tailB at h
  cases h1 : hasB s L withinT i with
  | false => rw [h1] at h; cases h
  | true =>
    rw [h1, if_pos rfl] at h
    cases h2 : takeB (fun x => decide (x.2.kind = 3)) L (i + 1) with
    | none => rw [h2] at h; cases h
    | some x =>
      rw [h2] at h
      dsimp only at h
      obtain ⟨lx, kx⟩ := take_some' h2
      have kx : x.2.kind = 3 := by simpa using kx
      have gx := hg _ (List.mem_of_getElem? (at_ab (s := s) lx))
      have hw : x.2.n < 9223372036854775808 := good_num gx.1 kx
      have hl := take_lt h2
      cases h3 : hasB s L byT (i + 2) with
      | true =>
        rw [h3, if_pos rfl] at h
        cases h4 : hasB s L keyT (i + 3) with
        | false => rw [h4] at h; cases h
        | true =>
          rw [h4, if_pos rfl] at h
          have := has_lt h4
          unfold restB at h
          split at h
          · cases h
          · injection h with h _
            exact ⟨x.2.n, true, h.symm, hw, by show i + 4 ≤ _; omega⟩
      | false =>
        rw [h3] at h
        unfold restB at h
        simp only [Bool.false_eq_true, if_false] at h
        split at h
        · cases h
        · injection h with h _
          exact ⟨x.2.n, false, h.symm, hw, by show i + 2 ≤ _; omega⟩
theorem conds_all (hM : 20 ≤ M) (hL : L.length ≤ 200) (hg : ∀ a ∈ abL s L, GoodA a ∧ a.t.size ≤ M) {i j : Nat} {C : List CN} (hi : i ≤ L.length) (h : condsB s L e i = .ok C j) : ∃ P : List (CN × List IT), C = P.map (·.1) ∧ (∀ p ∈ P, ∃ n, n ≤ 200 ∧ CnG M p.1 n p.2) ∧ i + (toksR (whR P)).length ≤ j ∧ j ≤ L.length := by
  unfold condsB at h
  cases hw : hasB s L whereT i with
  | false =>
    rw [hw] at h
    injection h with h1 h2
    exact ⟨[], h1.symm, fun p hp => by simp at hp, by show i + 0 ≤ j; omega, by omega⟩
  | true =>
    rw [hw, if_pos rfl] at h
    have hl := has_lt hw
    cases hx : condB s L e 0 (i + 1) with
    | out => rw [hx] at h; cases h
    | stop a r => rw [hx] at h; cases h
    | ok c k =>
      rw [hx] at h
      obtain ⟨hk, R, G⟩ := cond_sound hM hg (by omega) hx
      have hkl := (cond_le hx (by omega)).2
      obtain ⟨P, e1, e2, e3, e4⟩ := conds_sound hM hL hg _ k _ C j hkl h
      refine ⟨(c, R) :: P, by rw [e1]; simp, fun y hy => ?_, ?_, e4⟩
      · rcases List.mem_cons.1 hy with rfl | hy
        · exact ⟨_, by omega, G⟩
        · exact e2 y hy
      · have := G.le
        unfold whR
        simp only [toks_n, toks_s, toksR_append, List.length_cons, List.length_append]
        omega
theorem query_sound (hM : 20 ≤ M) (hL : L.length ≤ 200) (hg : ∀ a ∈ abL s L, GoodA a ∧ a.t.size ≤ M) {q : QU} {j : Nat} (h : queryB s L e = .ok q j) : ∃ x E P w b, q = ⟨x :: E, P.map (·.1), w, b⟩ ∧ QuG M x E P w ∧ (toksR (quR x E P w b)).length ≤ L.length := by
  unfold queryB at h
  cases h0 : hasB s L seqT 0 with
  | false => rw [h0] at h; cases h
  | true =>
    rw [h0, if_pos rfl] at h
    unfold elemsB at h
    cases hx : elemB s L e 1 with
    | out => rw [hx] at h; cases h
    | stop a r => rw [hx] at h; cases h
    | ok x k =>
      rw [hx] at h
      change PA.bind (elemsF s L e (L.length + 1) k [x]) _ = _ at h
      obtain ⟨gx, hk⟩ := elem_sound hg hx
      cases hy : elemsF s L e (L.length + 1) k [x] with
      | out => rw [hy] at h; cases h
      | stop a r => rw [hy] at h; cases h
      | ok E i =>
        rw [hy] at h
        change PA.bind (condsB s L e i) _ = _ at h
        obtain ⟨E2, e1, e2, e3⟩ := elems_sound hg _ _ _ _ _ hy
        have hil : i ≤ L.length := by
          have hkl := (elem_le hx).2
          have : ∀ (E2 : List EL) (f k : Nat) (l0 E : List EL) (i : Nat), elemsF s L e f k l0 = .ok E i → k ≤ L.length → i ≤ L.length := by
            intro E2 f
            induction f with
            | zero => intro k l0 E i h _; cases h
            | succ f ih =>
              intro k l0 E i h hk
              rw [elemsF] at h
              by_cases hc : hasB s L commaT k = true
              · rw [if_pos hc] at h
                cases hx : elemB s L e (k + 1) with
                | out => rw [hx] at h; cases h
                | stop a r => rw [hx] at h; cases h
                | ok y m => rw [hx] at h; exact ih m _ E i h (elem_le hx).2
              · rw [if_neg hc] at h
                injection h with _ h
                omega
          exact this E2 _ _ _ _ _ hy hkl
        cases hz : condsB s L e i with
        | out => rw [hz] at h; cases h
        | stop a r => rw [hz] at h; cases h
        | ok C m =>
          rw [hz] at h
          change tailB s L e E C m = _ at h
          obtain ⟨P, p1, p2, p3, p4⟩ := conds_all hM hL hg hil hz
          obtain ⟨w, b, q1, q2, q3⟩ := tail_sound hg h
          refine ⟨x, E2, P, w, b, by rw [q1, e1, p1]; rfl, ⟨gx.1, fun y hy => (e2 y hy).1, fun y hy => ?_, p2, q2⟩, ?_⟩
          · rcases List.mem_cons.1 hy with rfl | hy
            · exact gx.2
            · exact (e2 y hy).2
          unfold quR
          simp only [toks_n, toks_s, toksR_append, List.length_cons, List.length_append]
          omega
theorem and_len : ∀ P : List (CN × List IT), P.length ≤ (toksR (andR P)).length
  | [] => Nat.le_refl 0
  | p :: P => by
    have := and_len P
    rw [andR_cons]
    show P.length + 1 ≤ (_ :: toksR (p.2 ++ andR P)).length
    rw [toksR_append]
    simp only [List.length_cons, List.length_append]
    omega
theorem com_len : ∀ E : List EL, E.length ≤ (toksR (comR E)).length
  | [] => Nat.le_refl 0
  | x :: E => by
    have := com_len E
    rw [comR_cons]
    show E.length + 1 ≤ (_ :: toksR (elR x ++ comR E)).length
    rw [toksR_append]
    simp only [List.length_cons, List.length_append]
    omega
theorem tail_reads {E : List EL} {C : List CN} {i w : Nat} {b : Bool} (hd : (abL s L).drop i = toksR (tlR w b)) : ∃ j, tailB s L e E C i = .ok ⟨E, C, w, b⟩ j := by
  have hl : L.length = i + (toksR (tlR w b)).length := by
    have := congrArg List.length hd
    rw [List.length_drop] at this
    have e : (abL s L).length = L.length := by unfold abL; rw [List.length_map]
    have : 1 ≤ (toksR (tlR w b)).length := by show 1 ≤ (_ :: _ :: _).length; simp
    omega
  have hd0 : (abL s L).drop i = kw withinT :: numA w :: toksR (byR b) := hd
  obtain ⟨x, lx, ex⟩ := ab_at (drop_at hd0 1)
  have kx : x.2.kind = 3 := congrArg AT.k ex
  have nx : x.2.n = w := congrArg AT.n ex
  have tk : takeB (fun x => decide (x.2.kind = 3)) L (i + 1) = some x := by unfold takeB; rw [lx]; simp [kx]
  unfold tailB
  rw [has_head hd0, if_pos (by decide), tk]
  dsimp only
  cases b with
  | false =>
    have hl : L.length = i + 2 := hl
    have hn : L[i + 2]? = none := List.getElem?_eq_none (by omega)
    rw [has_out hn]
    simp only [Bool.false_eq_true, if_false]
    unfold restB
    rw [if_neg (by omega), nx]
    exact ⟨_, rfl⟩
  | true =>
    have hl : L.length = i + 4 := hl
    have hd2 : (abL s L).drop (i + 2) = kw byT :: [kw keyT] := by rw [← List.drop_drop, hd0]; rfl
    have hd3 : (abL s L).drop (i + 3) = kw keyT :: [] := by rw [← List.drop_drop, hd0]; rfl
    rw [has_head hd2, has_head hd3, if_pos (by decide), if_pos (by decide)]
    unfold restB
    rw [if_neg (by omega), nx]
    exact ⟨_, rfl⟩
theorem query_reads {x : EL} {E : List EL} {P : List (CN × List IT)} {w : Nat} (h : QuG M x E P w) {b : Bool} (hd : abL s L = toksR (quR x E P w b)) : ∃ j, queryB s L e = .ok ⟨x :: E, P.map (·.1), w, b⟩ j := by
  have et : toksR (quR x E P w b) = kw seqT :: (toksR (elR x) ++ (toksR (comR E) ++ (toksR (whR P) ++ toksR (tlR w b)))) := by
    unfold quR
    simp only [toks_n, toks_s, toksR_append]
  rw [et] at hd
  have hL : L.length = (kw seqT :: (toksR (elR x) ++ (toksR (comR E) ++ (toksR (whR P) ++ toksR (tlR w b))))).length := by
    rw [← hd]
    unfold abL
    rw [List.length_map]
  simp only [List.length_cons, List.length_append] at hL
  have d0 : (abL s L).drop 0 = kw seqT :: (toksR (elR x) ++ (toksR (comR E) ++ (toksR (whR P) ++ toksR (tlR w b)))) := hd
  have d1 : (abL s L).drop 1 = toksR (elR x) ++ (toksR (comR E) ++ (toksR (whR P) ++ toksR (tlR w b))) := by rw [hd]; rfl
  have d2 := drop_on d1
  obtain ⟨a, q, ha, hc, hwh⟩ : ∃ a q, toksR (whR P) ++ toksR (tlR w b) = a :: q ∧ a.t ≠ commaT ∧ (decide (a.t = whereT) = !P.isEmpty) := by
    cases P with
    | nil => exact ⟨kw withinT, _, rfl, by decide, by decide⟩
    | cons p P => exact ⟨kw whereT, _, rfl, by decide, by show decide (whereT = whereT) = true; decide⟩
  have hce := com_len E
  have r1 := elems_reads (s := s) (L := L) (e := e) E (L.length + 1) (1 + (toksR (elR x)).length) [x] a q h.hE (by omega) (by rw [d2, ha]) hc
  have d3 := drop_on d2
  unfold queryB
  rw [has_head d0, if_pos (by decide)]
  unfold elemsB
  rw [elem_reads h.hx d1]
  show ∃ j, PA.bind (elemsF s L e (L.length + 1) (1 + (toksR (elR x)).length) [x]) _ = _
  rw [r1]
  show ∃ j, PA.bind (condsB s L e (1 + (toksR (elR x)).length + (toksR (comR E)).length)) _ = _
  have r2 : ∃ m, condsB s L e (1 + (toksR (elR x)).length + (toksR (comR E)).length) = .ok (P.map (·.1)) m ∧ (abL s L).drop m = toksR (tlR w b) := by
    unfold condsB
    rw [has_head (by rw [d3, ha]), hwh]
    cases P with
    | nil => exact ⟨_, rfl, d3⟩
    | cons p P =>
      rw [if_pos (by rfl)]
      have d4 : (abL s L).drop (1 + (toksR (elR x)).length + (toksR (comR E)).length + 1) = toksR p.2 ++ (toksR (andR P) ++ toksR (tlR w b)) := by
        rw [← List.drop_drop, d3]
        show (toksR (p.2 ++ andR P) ++ toksR (tlR w b)) = _
        rw [toksR_append, List.append_assoc]
      obtain ⟨n, -, G⟩ := h.hP p (by simp)
      have hns : noSign (toksR (andR P) ++ toksR (tlR w b)) := by
        intro c r ec
        cases P with
        | nil => have ec : kw withinT :: _ = c :: r := ec; injection ec with ec _; subst ec; decide
        | cons p2 P2 =>
          rw [andR_cons] at ec
          have ec : kw andT :: _ = c :: r := ec
          injection ec with ec _
          subst ec
          decide
      have d5 := drop_on d4
      have hca := and_len P
      have hwl : (toksR (whR (p :: P))).length = 1 + (toksR p.2).length + (toksR (andR P)).length := by
        show (_ :: toksR (p.2 ++ andR P)).length = _
        rw [toksR_append]
        simp only [List.length_cons, List.length_append]
        omega
      rw [G.rd s L e _ _ d4 hns]
      show ∃ m, condsF s L e (L.length + 1) (1 + (toksR (elR x)).length + (toksR (comR E)).length + 1 + (toksR p.2).length) [p.1] = _ ∧ _
      rw [conds_reads P (L.length + 1) _ [p.1] (kw withinT) (numA w :: toksR (byR b)) (fun y hy => h.hP y (List.mem_cons_of_mem _ hy)) (by omega) d5 (by decide) (by decide)]
      exact ⟨_, rfl, drop_on d5⟩
  obtain ⟨m, r2, d6⟩ := r2
  rw [r2]
  exact tail_reads d6
end
theorem text_abL (R : List IT) (h : Chain R) : abL ⟨(bytesR R).toArray⟩ (toksB (bytesR R)) = toksR R := by
  have := (chain_all h).1
  rw [← this]
  unfold abL
  apply List.map_congr_left
  intro x _
  rw [← abl_ab]
/-- What was parsed, and printed, is parsed the same. -/
theorem parse_back {s : ByteArray} {q : QU} {n : Nat} (h : parseB s = (q, n, 0)) : printOk q = true ∧ parseB (printT q) = (q, (printT q).size, 0) ∧ (toksB s.data.toList).length ≤ 200 ∧ ∃ x E P w b, q = ⟨x :: E, P.map (·.1), w, b⟩ ∧ QuG (s.size + 20) x E P w ∧ (toksR (quR x E P w b)).length ≤ (toksB s.data.toList).length := by
  unfold parseB at h
  cases h2 : (toksB s.data.toList)[200]? with
  | some x => rw [h2] at h; simp at h
  | none =>
    rw [h2] at h
    dsimp only at h
    have hl : (toksB s.data.toList).length ≤ 200 := List.getElem?_eq_none_iff.1 h2
    split at h
    · simp at h
    · cases hq : queryB s (toksB s.data.toList) s.size with
      | out => exact absurd hq query_out
      | stop a r =>
        rw [hq] at h
        dsimp only at h
        exfalso
        have h0 : r = 0 := by simpa using congrArg (fun x => x.2.2) h
        have hz : q = zq := (congrArg (fun x => x.1) h).symm
        subst h0
        exact query_stop0 hq
      | ok q' j =>
        rw [hq] at h
        dsimp only at h
        have hqq : q' = q := congrArg (fun x => x.1) h
        subst hqq
        obtain ⟨x, E, P, w, b, rfl, G, hle⟩ := query_sound (M := s.size + 20) (by omega) hl (fun a ha => ⟨(toks_good s a ha).1, by have := (toks_good s a ha).2; omega⟩) hq
        obtain ⟨hok, htx⟩ := qu_text G b
        have hc := qu_chain G b
        refine ⟨hok, ?_, hl, x, E, P, w, b, rfl, G, hle⟩
        rw [htx]
        have hab := text_abL _ hc
        have hlen : (toksB (bytesR (quR x E P w b))).length = (toksR (quR x E P w b)).length := by
          rw [← hab]
          unfold abL
          rw [List.length_map]
        have hsz : (⟨(bytesR (quR x E P w b)).toArray⟩ : ByteArray).size = (bytesR (quR x E P w b)).length := by
          show (bytesR _).toArray.size = _
          simp
        unfold parseB
        show (match (toksB (bytesR (quR x E P w b)))[200]? with | some x => _ | none => _) = _
        rw [List.getElem?_eq_none (by omega)]
        dsimp only
        rw [if_neg (by rw [(chain_all hc).2, hsz]; omega)]
        obtain ⟨m, hm⟩ := query_reads (s := ⟨(bytesR (quR x E P w b)).toArray⟩) (L := toksB (bytesR (quR x E P w b))) (e := (⟨(bytesR (quR x E P w b)).toArray⟩ : ByteArray).size) G (b := b) hab
        rw [hm]
/-- What was parsed may be printed: it fits. -/
theorem QuG.fits {x : EL} {E : List EL} {P : List (CN × List IT)} {w : Nat} {b : Bool} (h : QuG M x E P w) (hM : M ≤ 1000000) (hl : (toksR (quR x E P w b)).length ≤ 200) : QFit ⟨x :: E, P.map (·.1), w, b⟩ := by
  have l1 := com_len E
  have l2 : P.length ≤ (toksR (whR P)).length := by
    cases P with
    | nil => exact Nat.le_refl 0
    | cons p P =>
      have := and_len P
      unfold whR
      simp only [toks_n, toks_s, toksR_append, List.length_cons, List.length_append]
      omega
  unfold quR at hl
  simp only [toks_n, toks_s, toksR_append, List.length_cons, List.length_append] at hl
  refine ⟨by show (x :: E).length ≤ 1000; simp; omega, by show (P.map (·.1)).length ≤ 1000; rw [List.length_map]; omega, fun y hy => Nat.le_trans (h.hz y hy) (by omega), fun c hc => ?_, by have := h.hw; show w ≤ _; omega⟩
  obtain ⟨p, hp, rfl⟩ := List.mem_map.1 hc
  obtain ⟨n, hn, G⟩ := h.hP p hp
  have hb : n * (M + 2) ≤ 200 * 1000002 := Nat.mul_le_mul hn (by omega)
  exact ⟨⟨by have := G.ln.1; omega, by have := G.ln.2; omega⟩, G.fit (by omega), ⟨fun ts q => by have := G.fl.1 ts q; omega, fun ts q => by have := G.fl.2 ts q; omega⟩⟩
end Go.Proofs.YtadogobdlcionaaGreatDoor
