/-
  What waits for one query does not hang on what comes for others: the walk.
-/
import Derived.Test.YtepmealhnnoahaaUz
import Derived.Test.YtepmealhnnoahaaSf
import Derived.Deep.DeepCutAuto
import Derived.Deep.CutBlock
namespace Go.Proofs.Ytepmealhnnoahaa
set_option linter.unusedSimpArgs false
open Go.ChangeShapes Go.WideShapes Go.ChangeAt Go.RowKit
set_option linter.unusedVariables false
theorem wrap_is {k : Nat} (h : k < 1000000) : wrap64 ((k : Int) + 1) = (k : Int) + 1 := by unfold wrap64; omega
theorem natcast_lt {i n : Nat} (h : i < n) : (i : Int) < (n : Int) := Int.ofNat_lt.2 h
theorem frefs_le2 {l : List Fnd} (h : ∀ f ∈ l, f.refs.length ≤ 2) : (frefs l).length ≤ 2 * l.length := by
  induction l with
  | nil => simp [frefs]
  | cons f l ih =>
    have h1 := h f (by simp)
    have h2 := ih (fun y hy => h y (by simp [hy]))
    simp only [frefs, List.length_append, List.length_cons] at h2 ⊢
    omega
theorem InvS.two2 {y : Int} {S : DS} (h : InvS (ouOf y) S) : ∀ i l lo, S i = some (l, lo) → l.length ≤ 10000 ∧ (frefs l).length ≤ 20000 := fun i l lo e => by
  obtain ⟨h1, h2⟩ := h i l lo e
  have := frefs_le2 (fun f hf => (h2 f hf).1)
  have := ouOf_le y
  omega
theorem even_len (Os : List OutV) : (evenO Os).length = Os.length := by unfold evenO; rw [List.length_map]
theorem even_mem {Os : List OutV} {o : OutV} (h : o ∈ evenO Os) : ∃ q ∈ Os, o.hits = q.hits.filter (fun x => x.id % 2 == 0) ∧ o.lost = q.lost.filter (fun x => x % 2 == 0) := by
  unfold evenO at h
  obtain ⟨q, hq, rfl⟩ := List.mem_map.1 h
  exact ⟨q, hq, rfl, rfl⟩
theorem even_merged {a : ActV} {st : Int} {Os : List OutV} (h : OutsOf a st Os) : (mergedH (evenO Os)).length ≤ 18 ∧ (lostL (evenO Os)).length ≤ 3 ∧ ∀ x ∈ mergedH (evenO Os), x.f.refs.length ≤ 2 ∧ x.f.sets.length ≤ 2 := by
  have hm := h.mem
  have hl := h.len
  have key : ∀ (l : List OutV) (n : Nat), l.length ≤ n → (∀ o ∈ l, o ∈ Os) → (hitsL (evenO l)).flatten.length ≤ n * 6 ∧ (lostL (evenO l)).length ≤ n * 1 := fun l => by
    induction l with
    | nil => exact fun n _ _ => ⟨by simp [hitsL, evenO], by simp [lostL, evenO]⟩
    | cons o l ih =>
      intro n hn hsub
      obtain ⟨n', rfl⟩ : ∃ n', n = n' + 1 := ⟨n - 1, by simp at hn; omega⟩
      obtain ⟨i1, i2⟩ := ih n' (by simp at hn; omega) (fun q hq => hsub q (by simp [hq]))
      have e1 : (hitsL (evenO (o :: l))).flatten = o.hits.filter (fun x => x.id % 2 == 0) ++ (hitsL (evenO l)).flatten := rfl
      have e2 : lostL (evenO (o :: l)) = o.lost.filter (fun x => x % 2 == 0) ++ lostL (evenO l) := rfl
      rw [e1, e2, List.length_append, List.length_append]
      have f1 := List.length_filter_le (fun x : Ht => x.id % 2 == 0) o.hits
      have f2 := List.length_filter_le (fun x : Int => x % 2 == 0) o.lost
      obtain ⟨g1, g2, _⟩ := hm o (hsub o (by simp))
      omega
  obtain ⟨k1, k2⟩ := key Os 3 hl (fun _ h => h)
  have hp := (merged_perm (evenO Os)).length_eq
  refine ⟨by omega, by omega, fun x hx => ?_⟩
  have hx2 := (merged_perm (evenO Os)).mem_iff.1 hx
  obtain ⟨l, hl, hxl⟩ := List.mem_flatten.1 hx2
  unfold hitsL at hl
  obtain ⟨o, ho, rfl⟩ := List.mem_map.1 hl
  obtain ⟨q, hq, e, _⟩ := even_mem ho
  rw [e] at hxl
  obtain ⟨_, _, j, e3⟩ := (hm q hq).2.2.1 x (List.mem_filter.1 hxl).1
  rw [e3]
  exact ⟨(fndC_refs st j).2.1, (fndC_refs st j).2.2⟩
theorem even_ok {a : ActV} {st : Int} {Os : List OutV} (h : OutsOf a st Os) : OutsOk (evenO Os) 1 := by
  have hm := h.mem
  have he := even_merged h
  refine ⟨by rw [even_len]; have := h.len; omega, fun o ho => ?_, fun o ho => ?_, fun o ho x hx => ?_, fun o ho i hi => ?_, ?_⟩
  · obtain ⟨q, hq, e, _⟩ := even_mem ho
    have := List.length_filter_le (fun x : Ht => x.id % 2 == 0) q.hits
    have := (hm q hq).1
    rw [e]; omega
  · obtain ⟨q, hq, _, e⟩ := even_mem ho
    have := List.length_filter_le (fun x : Int => x % 2 == 0) q.lost
    have := (hm q hq).2.1
    rw [e]; omega
  · obtain ⟨q, hq, e, _⟩ := even_mem ho
    rw [e] at hx
    obtain ⟨q1, q2, _⟩ := (hm q hq).2.2.1 x (List.mem_filter.1 hx).1
    exact wf_of q1 (by omega)
  · obtain ⟨q, hq, _, e⟩ := even_mem ho
    rw [e] at hi
    obtain ⟨q1, q2⟩ := (hm q hq).2.2.2 i (List.mem_filter.1 hi).1
    exact wf_of q1 (by omega)
  · have h1 := refSum_le (H := mergedH (evenO Os)) (fun x hx => (he.2.2 x hx).1)
    have := he.1
    omega
theorem even_hits {w : World} {N : Nat → Prop} {Os : List OutV} (h : HitsAt w N Os) : HitsAt w N (evenO Os) := fun o ho x hx => by
  obtain ⟨q, hq, e, _⟩ := even_mem ho
  rw [e] at hx
  exact h q hq x (List.mem_filter.1 hx).1
def evF (l : List Ht) : List Ht := l.filter (fun x => x.id % 2 == 0)
def evL (l : List Int) : List Int := l.filter (fun x => x % 2 == 0)
theorem evF_step {l : List Ht} {j : Nat} {x : Ht} (h : l[j]? = some x) : evF (l.take (j + 1)) = evF (l.take j) ++ if x.id % 2 = 0 then [x] else [] := by
  unfold evF
  rw [List.take_add_one, h, List.filter_append]
  by_cases e : x.id % 2 = 0 <;> simp [e]
theorem evL_step {l : List Int} {j : Nat} {x : Int} (h : l[j]? = some x) : evL (l.take (j + 1)) = evL (l.take j) ++ if x % 2 = 0 then [x] else [] := by
  unfold evL
  rw [List.take_add_one, h, List.filter_append]
  by_cases e : x % 2 = 0 <;> simp [e]
theorem even_at {Os : List OutV} {k : Nat} {o : OutV} (h : Os[k]? = some o) : (evenO Os)[k]? = some ⟨evF o.hits, evL o.lost⟩ := by
  unfold evenO
  rw [List.getElem?_map, h]
  rfl
/-- Between two calls: two desks, apart. -/
structure ASt (w : World) (x y : Int) (d e b1 b2 i md me m : Nat) (S T : DS) (P Q : Nat → Prop) (wr : World) : Prop where
  dd : DAt wr d md b1 (quOf x) (ouOf y) (i * 30) m S P
  de : DAt wr e me b2 (quOf x) (ouOf y) (i * 30) m T Q
  sep : ∀ k, P k → ¬ Q k
  op : ∀ k, P k → w.heap.size ≤ k
  oq : ∀ k, Q k → w.heap.size ≤ k
  iS : InvS (ouOf y) S
  iT : InvS (ouOf y) T
  mq : (m : Int) ≤ quOf x
  rel : ApR S T
  turn : Turn (fun _ => False) w wr
def AqRel (w : World) (x y : Int) (d e b1 b2 : Nat) (L : List ActV) (gh : Nat) (v8 : Value) (wr : World) : Prop :=
  ∃ (i md me m : Nat) (S T : DS) (P Q : Nat → Prop), v8 = .int .i64 (i : Int) ∧ i ≤ min L.length 40 ∧ gh = min L.length 40 - i ∧ ASt w x y d e b1 b2 i md me m S T P Q wr
def EvRel (ob : Nat) (Os : List OutV) (wX : World) (gh : Nat) (v12 : Value) (wr : World) : Prop :=
  ∃ k : Nat, v12 = .int .i64 (k : Int) ∧ k ≤ Os.length ∧ gh = Os.length - k ∧ EvAt ob Os.length k (evenO Os) wX wr
def HvRel (ob k : Nat) (wk : World) (H : List Ht) (gh : Nat) (v13 : Value) (wr : World) : Prop :=
  ∃ (j : Nat) (vh : Value), v13 = .int .i64 (j : Int) ∧ j ≤ H.length ∧ gh = H.length - j ∧ RowK ob k wk vh (.slice none 0 0) (evF (H.take j)) [] wr
def LvRel (ob k : Nat) (wk : World) (H : List Ht) (l : List Int) (gh : Nat) (v14 : Value) (wr : World) : Prop :=
  ∃ (j : Nat) (vh vl : Value), v14 = .int .i64 (j : Int) ∧ j ≤ l.length ∧ gh = l.length - j ∧ RowK ob k wk vh vl (evF H) (evL (l.take j)) wr
def IdRel (w8 : World) (gh : Nat) (v20 : Value) (wr : World) : Prop :=
  ∃ k : Nat, v20 = .int .i64 (2 * (k : Int)) ∧ k ≤ 6 ∧ gh = 6 - k ∧ Turn (fun _ => False) w8 wr
theorem wrap_two {k : Nat} (h : k < 1000) : wrap64 (2 * (k : Int) + 2) = 2 * ((k + 1 : Nat) : Int) := by unfold wrap64; omega
theorem wrap_lt {j n B : Nat} (h : j < n) (h2 : n ≤ B) (h3 : B < 1000) : wrap64 ((j : Int) + 1) = (j : Int) + 1 := wrap_is (by omega)
theorem evF_len {l : List Ht} (h : l.length ≤ 6) (j : Nat) : (evF (l.take j)).length ≤ 100 := by
  have h1 := List.length_filter_le (fun x : Ht => x.id % 2 == 0) (l.take j)
  rw [List.length_take] at h1
  unfold evF
  omega
theorem evL_len {l : List Int} (h : l.length ≤ 1) (j : Nat) : (evL (l.take j)).length ≤ 100 := by
  have h1 := List.length_filter_le (fun x : Int => x % 2 == 0) (l.take j)
  rw [List.length_take] at h1
  unfold evL
  omega
set_option maxRecDepth 100000 in
set_option maxHeartbeats 16000000 in
theorem apart_walk (x y : Int) (sa : Option Addr) (cap : Nat) (L : List ActV) (w : World) (hA : ActsAt w sa L) : Calls Try.prog 8 #[.agg #[.int .i64 x, .int .i64 y], .slice sa L.length cap] w fun e w' => e = .returned (.bool true) ∧ Below w.heap.size w w' := by
  have q1 := quOf_le x
  have q2 := ouOf_le y
  have HA := Lib.hid hA
  clear hA
  go_enter Try.func8, Try.ntmps8
  go_wp2_with fail
  with_reducible refine (queue_awake _).mono ?_
  rintro en w1 ⟨rfl, T1⟩
  have r0 : w1.rangeAt w.heap.size 0 [.int .i64 x, .int .i64 y] := range_turn (range_new w [.int .i64 x, .int .i64 y] 22) T1 id
  have y0 : w1.cell? ⟨w.heap.size, 0, none⟩ = some (.int .i64 x) := r0 0 _ rfl
  have y1 : w1.cell? ⟨w.heap.size, 1, none⟩ = some (.int .i64 y) := r0 1 _ rfl
  have T01 : Turn (fun _ => False) w w1 := ((Turn.refl _ w).alloc _).trans T1
  clear T1
  go_wp2_with fail
  with_reducible refine (config_of w1 x y).mono ?_
  rintro en w2 ⟨rfl, T2⟩
  clear y0 y1
  go_wp2_with fail
  with_reducible refine (new_d w2 0 0 0 0 0 (qu := quOf x) (ou := ouOf y) q1.1 (by omega) q2.1 (by omega)).mono ?_
  rintro en w4 ⟨d, md, P, rfl, hd, hPw, T4⟩
  have T24 := T2.trans T4
  have y0 : w4.cell? ⟨w.heap.size, 0, none⟩ = some (.int .i64 x) := T24.cell id (r0 0 _ rfl)
  have y1 : w4.cell? ⟨w.heap.size, 1, none⟩ = some (.int .i64 y) := T24.cell id (r0 1 _ rfl)
  go_wp2_with fail
  with_reducible refine (config_of w4 x y).mono ?_
  rintro en w5 ⟨rfl, T5⟩
  clear y0 y1 r0
  go_wp2_with fail
  with_reducible refine (new_d w5 0 0 0 0 0 (qu := quOf x) (ou := ouOf y) q1.1 (by omega) q2.1 (by omega)).mono ?_
  rintro en w6 ⟨e, me, Q, rfl, he, hQw, T6⟩
  have T02 := T01.trans T2
  have T04 := T02.trans T4
  have T05 := T04.trans T5
  have T56 := T5.trans T6
  have R0 : AqRel w x y d e w2.heap.size w5.heap.size L (min L.length 40) (.int .i64 0) w6 := ⟨0, md, me, 0, noneS, noneS, P, Q, rfl, Nat.zero_le _, rfl, ⟨hd.turn T56 (fun _ _ f => f), he, fun k p q => by have := hd.lt p; have := hQw k q; have := T5.size; omega, fun k p => Nat.le_trans T02.size (hPw k p), fun k p => Nat.le_trans T05.size (hQw k p), (fun i l lo h => by cases h), (fun i l lo h => by cases h), by omega, ⟨fun _ => rfl, fun _ _ => rfl⟩, T05.trans T6⟩⟩
  clear hd hPw T4 T2 T01 T24 q1 q2 he hQw T5 T6 T02 T04 T05 T56
  generalize w2.heap.size = b1 at *
  generalize w5.heap.size = b2 at *
  go_wp2_with fail
  go_loopg [8] (min L.length 40) (fun gh v8 wr => AqRel w x y d e b1 b2 L gh v8 wr)
  case atStart => exact R0
  case round =>
    clear R0
    obtain ⟨i, md, me, m, S, T, P, Q, rfl, hi, hg, B⟩ := hrel
    by_cases hlt : i < min L.length 40
    · have q1 := quOf_le x
      have q2 := ouOf_le y
      have u1 : decide ((i : Int) < (L.length : Int)) = true := decide_eq_true (by omega)
      have u2 : decide (i < L.length) = true := decide_eq_true (by omega)
      have u3 : decide ((i : Int) < 40) = true := decide_eq_true (by omega)
      have j0 : (0 : Int) ≤ (i : Int) := by omega
      have j1 : (i : Int) < (L.length : Int) := by omega
      obtain ⟨a, hai⟩ : ∃ a, L[i]? = some a := ⟨_, List.getElem?_eq_getElem (by omega)⟩
      obtain ⟨ab, ao, e1, e2⟩ := HA.out
      have ea := e1.resolve_left (fun e => by rw [e] at hai; simp at hai)
      subst ea
      obtain ⟨ha, hc, la, lc, hr, nh, nl⟩ := e2 i a hai
      have hr1 := range_turn hr B.turn id
      have z0 : wr.cell? ⟨ab, ao + i * 6, none⟩ = some (.int .i64 a.kind) := hr1 0 _ rfl
      have z1 : wr.cell? ⟨ab, ao + i * 6 + 1, none⟩ = some (.int .i64 a.id) := hr1 1 _ rfl
      have z2 : wr.cell? ⟨ab, ao + i * 6 + 2, none⟩ = some (.int .i64 a.num) := hr1 2 _ rfl
      have z3 : wr.cell? ⟨ab, ao + i * 6 + 3, none⟩ = some (.slice ha a.hits.length hc) := hr1 3 _ rfl
      have z4 : wr.cell? ⟨ab, ao + i * 6 + 4, none⟩ = some (.slice la a.lost.length lc) := hr1 4 _ rfl
      have z5 : wr.cell? ⟨ab, ao + i * 6 + 5, none⟩ = some (.int .i64 a.shard) := hr1 5 _ rfl
      have es : wrap64 ((i : Int) + 1) = (i : Int) + 1 := by unfold wrap64; omega
      have C := cmd_is wr a (hc := hc) (lc := lc) (nh.turn B.turn) (nl.turn B.turn) ((i : Int) + 1) (by omega)
      unfold CmdPost at C
      have cwf := cmd_wf a ((i : Int) + 1)
      obtain ⟨⟨ck, ci, cn, cs, cg⟩, hcm⟩ : ∃ c, cmdOf a ((i : Int) + 1) = c := ⟨_, rfl⟩
      rw [hcm] at C cwf
      dsimp only [CmdV.cells, cmdL] at C cwf
      have C := Lib.hid C
      have G0 := Lib.hid (And.intro hi (And.intro hg (And.intro B (And.intro hlt cwf))))
      have HS0 := Lib.hid (show (Lit.int .i64 ((i : Int) + 1)).wf = true from wf_of (by omega) (by omega))
      clear hi hg B hlt e1 e2 hai hr hr1 nh nl hcm cwf q1 q2
      go_wp2_with fail
      with_reducible refine C.out.mono ?_
      clear C z0 z1 z2 z3 z4 z5
      rintro en w2 ⟨va, vc, Os, rfl, hO, hF, hOf, T2⟩
      obtain ⟨X, hX⟩ : ∃ X, X = w2.alloc (.cells #[.int .i64 ck, .int .i64 ci, .int .i64 cn, .int .i64 0, .int .i64 0, .int .i64 0, .int .i64 0, .int .i64 0, .int .i64 0, .int .i64 cs, .int .i64 cg, .slice none 0 0, .int .i64 0, .bool false] 43) := ⟨_, rfl⟩
      have TX : Turn (fun _ => False) w2 X := by rw [hX]; exact (Turn.refl _ w2).alloc _
      have bX : Blk X w2.heap.size 43 := by rw [hX]; exact Blk.new w2 (cmdL ck ci cn cs cg) 43
      have rX : X.rangeAt w2.heap.size 0 (cmdL ck ci cn cs cg) := by rw [hX]; exact range_new w2 (cmdL ck ci cn cs cg) 43
      have T2X := T2.trans TX
      have hON : OutsAt X (fun k => k < wr.heap.size) (.slice va Os.length vc) Os := hO.next TX (fun _ _ f => f) (fun _ _ f => f) (fun _ _ _ f => f) (fun k p => .inl p)
      have hFN : HitsAt X (fun k => k < wr.heap.size) Os := hF.next TX (fun _ _ f => f.elim) (fun k p => .inl p)
      have HOS := Lib.hid (show Os.length ≤ 3 ∧ (∀ o ∈ Os, o.hits.length ≤ 6 ∧ o.lost.length ≤ 1 ∧ (∀ x ∈ o.hits, 0 ≤ x.id ∧ x.id < 12) ∧ ∀ i ∈ o.lost, 0 ≤ i ∧ i < 12) from ⟨hOf.len, fun o ho => ⟨(hOf.mem o ho).1, (hOf.mem o ho).2.1, fun x hx => ⟨((hOf.mem o ho).2.2.1 x hx).1, ((hOf.mem o ho).2.2.1 x hx).2.1⟩, (hOf.mem o ho).2.2.2⟩⟩)
      obtain ⟨WE, hmk, hnil, bob, TE⟩ := make_outs X Os.length hOf.len
      obtain ⟨ob, hob⟩ : ∃ ob, ob = X.heap.size := ⟨_, rfl⟩
      rw [← hob] at hmk hnil bob
      have hmk := Lib.hid hmk
      have E0 : EvAt ob Os.length 0 (evenO Os) X WE := ⟨fun k' h => absurd h (Nat.not_lt_zero _), fun k' _ h2 => hnil k' h2, bob, by omega, TE⟩
      have R2 : EvRel ob Os X Os.length (.int .i64 0) WE := ⟨0, rfl, Nat.zero_le _, rfl, E0⟩
      have hHX := Lib.hid hX
      have H1 := Lib.hid (And.intro T2X (And.intro bX (And.intro rX (And.intro hOf (And.intro hON (And.intro hFN hob))))))
      clear T2 TX bX rX T2X hON hFN hO hF hOf hnil bob TE E0 hX hob
      go_upto_region 8 with fail
      rw [← hHX.out]
      clear hHX
      have MK := hmk.out
      clear hmk
      go_upto_region 9 with fail
      clear MK
      generalize w2.heap.size = xb at *
      go_wp2_with fail
      go_loopg [12, 13, 14] Os.length (fun gh v12 v13 v14 wv => EvRel ob Os X gh v12 wv)
      case atStart => exact R2
      case round =>
        clear R2
        obtain ⟨k, rfl, hk, hgk, E⟩ := hrel
        rename World => wk
        by_cases hkl : k < Os.length
        · obtain ⟨o, hok⟩ : ∃ o, Os[k]? = some o := ⟨_, List.getElem?_eq_getElem hkl⟩
          have v1 : decide ((k : Int) < (Os.length : Int)) = true := decide_eq_true (natcast_lt hkl)
          have v2 : decide (k < Os.length) = true := decide_eq_true hkl
          have v3 : (0 : Int) ≤ (k : Int) := Int.natCast_nonneg k
          have v4 : (k : Int) < (Os.length : Int) := natcast_lt hkl
          have ek : wrap64 ((k : Int) + 1) = (k : Int) + 1 := wrap_lt hkl HOS.out.1 (by decide)
          have R3 : HvRel ob k wk o.hits o.hits.length (.int .i64 0) wk := ⟨0, _, rfl, Nat.zero_le _, rfl, E.start hkl⟩
          have hmo := HOS.out.2 o (List.mem_of_getElem? hok)
          have G3 := Lib.hid (And.intro hgk (And.intro hkl (And.intro hok (And.intro E hmo))))
          clear hgk hok hk E hmo
          go_wp2_with fail
          go_loopg [13] o.hits.length (fun gh v13 wv => HvRel ob k wk o.hits gh v13 wv)
          case atStart => exact R3
          case round =>
            clear R3
            obtain ⟨j, vh, rfl, hj, hgj, K⟩ := hrel
            rename World => wj
            obtain ⟨hgk, hkl, hok, E, hmo⟩ := G3.out
            have TXj : Turn (fun _ => False) X wj := E.world K.turn
            obtain ⟨a1, b1', of1, cp1, e1, h1, h2⟩ := H1.out.2.2.2.2.1
            obtain ⟨e2, e3⟩ : va = a1 ∧ vc = cp1 := by injection e1 with z1 z2 z3; exact ⟨z1, z3⟩
            obtain ⟨hva, _⟩ := h1.resolve_left (fun e => by rw [e] at hok; simp at hok)
            rw [hva] at e2
            clear e1 h1 hva
            subst e2
            obtain rfl : cp1 = vc := e3.symm
            obtain ⟨vhh, vll, ua, un, uc, da, dn, dc, hr, hh, hl⟩ := h2 k o hok
            obtain ⟨h4, hb, ho1, hc1, rfl, hcap, hrow, hx⟩ := hh
            have x0 : wj.cell? ⟨b1', of1 + k * 4, none⟩ = some (.slice h4 o.hits.length hc1) := TXj.cell id (hr 0 _ rfl)
            by_cases hjl : j < o.hits.length
            · obtain ⟨xq, hxq⟩ : ∃ x, o.hits[j]? = some x := ⟨_, List.getElem?_eq_getElem hjl⟩
              obtain ⟨rfl, bh⟩ := hrow.resolve_left (fun e => by rw [e] at hjl; exact absurd hjl (Nat.not_lt_zero j))
              have xr := hx j xq hxq
              have xi : wj.cell? ⟨hb, ho1 + j * 3, none⟩ = some (.int .i64 xq.id) := TXj.cell id (xr 0 _ rfl)
              obtain ⟨id0, id1⟩ := hmo.2.2.1 xq (List.mem_of_getElem? hxq)
              have t1 : decide ((j : Int) < (o.hits.length : Int)) = true := decide_eq_true (natcast_lt hjl)
              have t2 : decide (j < o.hits.length) = true := decide_eq_true hjl
              have t3 : (0 : Int) ≤ (j : Int) := Int.natCast_nonneg j
              have t4 : (j : Int) < (o.hits.length : Int) := natcast_lt hjl
              have ej : wrap64 ((j : Int) + 1) = (j : Int) + 1 := wrap_lt hjl hmo.1 (by decide)
              have hst := evF_step hxq
              have hfl : (evF (o.hits.take j)).length ≤ 100 := evF_len hmo.1 j
              have G4 := Lib.hid (And.intro hgj hjl)
              by_cases hev : xq.id % 2 = 0
              · have te : (xq.id % 2 == 0) = true := beq_iff_eq.2 hev
                have tm : (xq.id.tmod 2 == 0) = true := by rw [Int.tmod_eq_emod_of_nonneg id0]; exact te
                rw [if_pos hev] at hst
                obtain ⟨V, hV⟩ : ∃ V, V = wj.drew := ⟨_, rfl⟩
                have TV : Turn (fun _ => False) wj V := by rw [hV]; exact (Turn.refl _ wj).drewN 1
                have KV := K.turns TV
                obtain ⟨v', W3, hrun, cW, bW, TW, KW⟩ := KV.addH hfl xq
                rw [← hst] at KW
                have yV : V.cell? ⟨ob, k * 4, none⟩ = some vh := KV.ch
                have yV1 : (V.alloc (.cells #[.int .i64 xq.id, .slice xq.sa xq.sn xq.sc, .slice xq.ra xq.rn xq.rc] 73)).cell? ⟨ob, k * 4, none⟩ = some vh := past yV
                have y3 := cW
                have fz3 : W3.frozen? ⟨ob, k * 4, none⟩ = false := bW.fz _
                have FF := Lib.hid (show ∀ W, Turn (fun _ => False) X W → W.cell? ⟨b1', of1 + k * 4, none⟩ = some (.slice (some ⟨hb, ho1, none⟩) o.hits.length hc1) ∧ W.cell? ⟨hb, ho1 + j * 3, none⟩ = some (.int .i64 xq.id) ∧ W.cell? ⟨hb, ho1 + j * 3 + 1, none⟩ = some (.slice xq.sa xq.sn xq.sc) ∧ W.cell? ⟨hb, ho1 + j * 3 + 2, none⟩ = some (.slice xq.ra xq.rn xq.rc) from fun W TWX => ⟨TWX.cell id (hr 0 _ rfl), TWX.cell id (xr 0 _ rfl), TWX.cell id (xr 1 _ rfl), TWX.cell id (xr 2 _ rfl)⟩)
                have TXV := TXj.trans TV
                have zV := FF.out V TXV
                have zD := zV
                rw [hV] at zD
                have zV1 := FF.out _ (TXV.alloc (.cells #[.int .i64 xq.id, .slice xq.sa xq.sn xq.sc, .slice xq.ra xq.rn xq.rc] 73))
                have zV3 := FF.out _ (E.world TW)
                have zV4 := FF.out _ (E.world KW.turn)
                obtain ⟨avh, cvh, rfl, -⟩ := own_slice KV.oh
                have FIN := Lib.hid (show HvRel ob k wk o.hits (o.hits.length - (j + 1)) (.int .i64 ((j : Int) + 1)) (W3.setCell ⟨ob, k * 4, none⟩ v') from ⟨j + 1, v', congrArg (Value.int .i64) (Int.natCast_succ j).symm, hjl, rfl, KW⟩)
                obtain ⟨av', cv', rfl, -⟩ := own_slice KW.oh
                generalize (evF (o.hits.take j)).length = nf at *
                generalize (evF (o.hits.take (j + 1))).length = nf1 at *
                have RUN1 := Lib.hid hrun
                clear hgk hkl hok E hmo K TXj h2 hr hl hx hrow hcap hj hgj hjl hxq xr bh hst hfl hev TV KV hrun cW bW TW KW FF TXV
                go_upto_region 16 with fail
                clear x0 xi te tm
                refine wp_region_held_drew (S := (fun w' => w'.cell? ⟨b1', of1 + k * 4, none⟩ = some (.slice (some ⟨hb, ho1, none⟩) o.hits.length hc1) ∧ w'.cell? ⟨hb, ho1 + j * 3, none⟩ = some (.int .i64 xq.id) ∧ w'.cell? ⟨hb, ho1 + j * 3 + 1, none⟩ = some (.slice xq.sa xq.sn xq.sc) ∧ w'.cell? ⟨hb, ho1 + j * 3 + 2, none⟩ = some (.slice xq.ra xq.rn xq.rc))) (by kernel_rfl) ?hs0 (fun hS0 => ?_)
                case hs0 => ((try dsimp only); first | with_reducible exact zD | with_reducible exact zV | with_reducible exact zV1 | with_reducible exact zV3 | with_reducible exact zV4)
                rw [← hV] at hS0 ⊢
                clear hV
                refine wpAnyH_take (i := 0) (oi := { dst := some 78, op := Op.move (Operand.tmp 11), type := 44, pos := "law.go:233", after := #[], guard := none }) (v := ?_) rfl (by kernel_rfl) (by kernel_rfl) (by kernel_rfl) (fun _ _ _ h => h) (Or.inl ⟨by rfl, ?hy1⟩) hS0 ?_
                case hy1 => (intro w hSw; (try dsimp only at hSw); go_simp; try with_reducible rfl)
                try simp only [Act.put, List.setIfInBounds_toArray, List.set_cons_zero, List.set_cons_succ]
                refine wpAnyH_take (i := 1) (oi := { dst := some 79, op := Op.move (Operand.tmp 12), type := 3, pos := "law.go:233", after := #[], guard := none }) (v := ?_) rfl (by kernel_rfl) (by kernel_rfl) (by kernel_rfl) (fun _ _ _ h => h) (Or.inl ⟨by rfl, ?hy2⟩) hS0 ?_
                case hy2 => (intro w hSw; (try dsimp only at hSw); go_simp; try with_reducible rfl)
                try simp only [Act.put, List.setIfInBounds_toArray, List.set_cons_zero, List.set_cons_succ]
                refine wpAnyH_take (i := 2) (oi := { dst := some 80, op := Op.move (Operand.tmp 11), type := 44, pos := "law.go:233", after := #[], guard := none }) (v := ?_) rfl (by kernel_rfl) (by kernel_rfl) (by kernel_rfl) (fun _ _ _ h => h) (Or.inl ⟨by rfl, ?hy3⟩) hS0 ?_
                case hy3 => (intro w hSw; (try dsimp only at hSw); go_simp; try with_reducible rfl)
                try simp only [Act.put, List.setIfInBounds_toArray, List.set_cons_zero, List.set_cons_succ]
                refine wpAnyH_take (i := 3) (oi := { dst := some 81, op := Op.move (Operand.tmp 12), type := 3, pos := "law.go:233", after := #[], guard := none }) (v := ?_) rfl (by kernel_rfl) (by kernel_rfl) (by kernel_rfl) (fun _ _ _ h => h) (Or.inl ⟨by rfl, ?hy4⟩) hS0 ?_
                case hy4 => (intro w hSw; (try dsimp only at hSw); go_simp; try with_reducible rfl)
                try simp only [Act.put, List.setIfInBounds_toArray, List.set_cons_zero, List.set_cons_succ]
                refine wpAnyH_take (i := 4) (oi := { dst := some 82, op := Op.indexAddr 44 (Operand.tmp 80) (Operand.tmp 81), type := 0, pos := "law.go:233", after := #[{ on := 2, ground := Ground.data }, { on := 3, ground := Ground.data }], guard := none }) (v := ?_) rfl (by kernel_rfl) (by kernel_rfl) (by kernel_rfl) (fun _ _ _ h => h) (Or.inl ⟨by rfl, ?hy5⟩) hS0 ?_
                case hy5 => (intro w hSw; (try dsimp only at hSw); go_simp; try with_reducible rfl)
                try simp only [Act.put, List.setIfInBounds_toArray, List.set_cons_zero, List.set_cons_succ]
                refine wpAnyH_take (i := 5) (oi := { dst := some 83, op := Op.fieldAddr 68 (Operand.tmp 82) 0, type := 0, pos := "law.go:233", after := #[{ on := 4, ground := Ground.data }], guard := none }) (v := ?_) rfl (by kernel_rfl) (by kernel_rfl) (by kernel_rfl) (fun _ _ _ h => h) (Or.inl ⟨by rfl, ?hy6⟩) hS0 ?_
                case hy6 => (intro w hSw; (try dsimp only at hSw); go_simp; try with_reducible rfl)
                try simp only [Act.put, List.setIfInBounds_toArray, List.set_cons_zero, List.set_cons_succ]
                refine wpAnyH_take (i := 7) (oi := { dst := some 85, op := Op.move (Operand.tmp 10), type := 44, pos := "law.go:233", after := #[], guard := none }) (v := ?_) rfl (by kernel_rfl) (by kernel_rfl) (by kernel_rfl) (fun _ _ _ h => h) (Or.inl ⟨by rfl, ?hy7⟩) hS0 ?_
                case hy7 => (intro w hSw; (try dsimp only at hSw); go_simp; try with_reducible rfl)
                try simp only [Act.put, List.setIfInBounds_toArray, List.set_cons_zero, List.set_cons_succ]
                refine wpAnyH_take (i := 8) (oi := { dst := some 86, op := Op.move (Operand.tmp 12), type := 3, pos := "law.go:233", after := #[], guard := none }) (v := ?_) rfl (by kernel_rfl) (by kernel_rfl) (by kernel_rfl) (fun _ _ _ h => h) (Or.inl ⟨by rfl, ?hy8⟩) hS0 ?_
                case hy8 => (intro w hSw; (try dsimp only at hSw); go_simp; try with_reducible rfl)
                try simp only [Act.put, List.setIfInBounds_toArray, List.set_cons_zero, List.set_cons_succ]
                refine wpAnyH_take (i := 9) (oi := { dst := some 87, op := Op.indexAddr 44 (Operand.tmp 85) (Operand.tmp 86), type := 0, pos := "law.go:233", after := #[{ on := 7, ground := Ground.data }, { on := 8, ground := Ground.data }], guard := none }) (v := ?_) rfl (by kernel_rfl) (by kernel_rfl) (by kernel_rfl) (fun _ _ _ h => h) (Or.inl ⟨by rfl, ?hy9⟩) hS0 ?_
                case hy9 => (intro w hSw; (try dsimp only at hSw); go_simp; try with_reducible rfl)
                try simp only [Act.put, List.setIfInBounds_toArray, List.set_cons_zero, List.set_cons_succ]
                refine wpAnyH_take (i := 10) (oi := { dst := some 88, op := Op.fieldAddr 68 (Operand.tmp 87) 0, type := 0, pos := "law.go:233", after := #[{ on := 9, ground := Ground.data }], guard := none }) (v := ?_) rfl (by kernel_rfl) (by kernel_rfl) (by kernel_rfl) (fun _ _ _ h => h) (Or.inl ⟨by rfl, ?hy10⟩) hS0 ?_
                case hy10 => (intro w hSw; (try dsimp only at hSw); go_simp; try with_reducible rfl)
                try simp only [Act.put, List.setIfInBounds_toArray, List.set_cons_zero, List.set_cons_succ]
                refine wpAnyH_take (i := 11) (oi := { dst := some 89, op := Op.load 66 (Operand.tmp 88), type := 66, pos := "law.go:233", after := #[{ on := 10, ground := Ground.data }], guard := none }) (v := ?_) rfl (by kernel_rfl) (by kernel_rfl) (by kernel_rfl) (fun _ _ _ h => h) (Or.inl ⟨by rfl, ?hy11⟩) hS0 ?_
                case hy11 => (intro w hSw; (try dsimp only at hSw); go_simp; try with_reducible rfl)
                try simp only [Act.put, List.setIfInBounds_toArray, List.set_cons_zero, List.set_cons_succ]
                refine wpAnyH_take (i := 12) (oi := { dst := some 90, op := Op.move (Operand.tmp 13), type := 3, pos := "law.go:233", after := #[], guard := none }) (v := ?_) rfl (by kernel_rfl) (by kernel_rfl) (by kernel_rfl) (fun _ _ _ h => h) (Or.inl ⟨by rfl, ?hy12⟩) hS0 ?_
                case hy12 => (intro w hSw; (try dsimp only at hSw); go_simp; try with_reducible rfl)
                try simp only [Act.put, List.setIfInBounds_toArray, List.set_cons_zero, List.set_cons_succ]
                refine wpAnyH_take (i := 13) (oi := { dst := some 91, op := Op.indexAddr 66 (Operand.tmp 89) (Operand.tmp 90), type := 0, pos := "law.go:233", after := #[{ on := 11, ground := Ground.data }, { on := 12, ground := Ground.data }], guard := none }) (v := ?_) rfl (by kernel_rfl) (by kernel_rfl) (by kernel_rfl) (fun _ _ _ h => h) (Or.inl ⟨by rfl, ?hy13⟩) hS0 ?_
                case hy13 => (intro w hSw; (try dsimp only at hSw); go_simp; try with_reducible rfl)
                try simp only [Act.put, List.setIfInBounds_toArray, List.set_cons_zero, List.set_cons_succ]
                refine wpAnyH_take (i := 14) (oi := { dst := some 92, op := Op.load 73 (Operand.tmp 91), type := 73, pos := "law.go:233", after := #[{ on := 13, ground := Ground.data }], guard := none }) (v := ?_) rfl (by kernel_rfl) (by kernel_rfl) (by kernel_rfl) (fun _ _ _ h => h) (Or.inl ⟨by rfl, ?hy14⟩) hS0 ?_
                case hy14 => (intro w hSw; (try dsimp only at hSw); go_simp; try with_reducible rfl)
                try simp only [Act.put, List.setIfInBounds_toArray, List.set_cons_zero, List.set_cons_succ]
                refine wpAnyH_ready (rs := [6, 15]) (by kernel_rfl) (by simp) ?_
                refine AllReadyH.cons (o := { dst := some 84, op := Op.load 66 (Operand.tmp 83), type := 66, pos := "law.go:233", after := #[{ on := 5, ground := Ground.data }], guard := none }) rfl (fun K hK => ?_) ?_
                · go_simp
                  refine hK.out _ _ ?hs15 (fun hS15 => ?_)
                  case hs15 => ((try dsimp only); first | with_reducible exact zD | with_reducible exact zV | with_reducible exact zV1 | with_reducible exact zV3 | with_reducible exact zV4)
                  clear hK K hS0
                  refine wpAnyH_ready (rs := [15]) (by kernel_rfl) (by simp) ?_
                  refine AllReadyH.cons (o := { dst := some 93, op := Op.buildSlice 66 1 #[(0, Operand.tmp 92)], type := 66, pos := "law.go:233", after := #[{ on := 14, ground := Ground.data }], guard := none }) rfl (fun K hK => ?_) ?_
                  · go_simp
                    refine hK.out _ _ ?hs16 (fun hS16 => ?_)
                    case hs16 => ((try dsimp only); first | with_reducible exact zD | with_reducible exact zV | with_reducible exact zV1 | with_reducible exact zV3 | with_reducible exact zV4)
                    clear hK K hS15
                    refine wpAnyH_ready (rs := [16]) (by kernel_rfl) (by simp) ?_
                    refine AllReadyH.cons (o := { dst := some 94, op := Op.call { callee := Callee.builtin Builtin.append, args := #[Operand.tmp 84, Operand.tmp 93], argTypes := #[66, 66] }, type := 66, pos := "law.go:233", after := #[{ on := 6, ground := Ground.data }, { on := 15, ground := Ground.data }], guard := none }) rfl (fun K hK => ?_) ?_
                    · refine rs_append_run (by rfl) _ _ _ (by rfl) (by rfl) (by rfl) RUN1.out ?_
                      refine hK.out _ _ ?hs17 (fun hS17 => ?_)
                      case hs17 => ((try dsimp only); first | with_reducible exact zD | with_reducible exact zV | with_reducible exact zV1 | with_reducible exact zV3 | with_reducible exact zV4)
                      clear hK K hS16
                      refine wpAnyH_take (i := 17) (oi := { dst := some 95, op := Op.indexAddr 44 (Operand.tmp 78) (Operand.tmp 79), type := 0, pos := "law.go:233", after := #[{ on := 0, ground := Ground.data }, { on := 1, ground := Ground.data }, { on := 0, ground := Ground.phase }, { on := 1, ground := Ground.phase }, { on := 2, ground := Ground.phase }, { on := 3, ground := Ground.phase }, { on := 4, ground := Ground.phase }, { on := 5, ground := Ground.phase }, { on := 6, ground := Ground.phase }, { on := 7, ground := Ground.phase }, { on := 8, ground := Ground.phase }, { on := 9, ground := Ground.phase }, { on := 10, ground := Ground.phase }, { on := 11, ground := Ground.phase }, { on := 12, ground := Ground.phase }, { on := 13, ground := Ground.phase }, { on := 14, ground := Ground.phase }, { on := 15, ground := Ground.phase }, { on := 16, ground := Ground.phase }], guard := none }) (v := ?_) rfl (by kernel_rfl) (by kernel_rfl) (by kernel_rfl) (fun _ _ _ h => h) (Or.inl ⟨by rfl, ?hy18⟩) hS17 ?_
                      case hy18 => (intro w hSw; (try dsimp only at hSw); go_simp; try with_reducible rfl)
                      try simp only [Act.put, List.setIfInBounds_toArray, List.set_cons_zero, List.set_cons_succ]
                      refine wpAnyH_take (i := 18) (oi := { dst := some 96, op := Op.fieldAddr 68 (Operand.tmp 95) 0, type := 0, pos := "law.go:233", after := #[{ on := 17, ground := Ground.data }, { on := 0, ground := Ground.phase }, { on := 1, ground := Ground.phase }, { on := 2, ground := Ground.phase }, { on := 3, ground := Ground.phase }, { on := 4, ground := Ground.phase }, { on := 5, ground := Ground.phase }, { on := 6, ground := Ground.phase }, { on := 7, ground := Ground.phase }, { on := 8, ground := Ground.phase }, { on := 9, ground := Ground.phase }, { on := 10, ground := Ground.phase }, { on := 11, ground := Ground.phase }, { on := 12, ground := Ground.phase }, { on := 13, ground := Ground.phase }, { on := 14, ground := Ground.phase }, { on := 15, ground := Ground.phase }, { on := 16, ground := Ground.phase }], guard := none }) (v := ?_) rfl (by kernel_rfl) (by kernel_rfl) (by kernel_rfl) (fun _ _ _ h => h) (Or.inl ⟨by rfl, ?hy19⟩) hS17 ?_
                      case hy19 => (intro w hSw; (try dsimp only at hSw); go_simp; try with_reducible rfl)
                      try simp only [Act.put, List.setIfInBounds_toArray, List.set_cons_zero, List.set_cons_succ]
                      refine wpAnyH_ready (rs := [19]) (by kernel_rfl) (by simp) ?_
                      refine AllReadyH.cons (o := { dst := none, op := Op.store 66 (Operand.tmp 96) (Operand.tmp 94), type := 0, pos := "law.go:233", after := #[{ on := 18, ground := Ground.data }, { on := 16, ground := Ground.data }, { on := 16, ground := Ground.chain }, { on := 0, ground := Ground.phase }, { on := 1, ground := Ground.phase }, { on := 2, ground := Ground.phase }, { on := 3, ground := Ground.phase }, { on := 4, ground := Ground.phase }, { on := 5, ground := Ground.phase }, { on := 6, ground := Ground.phase }, { on := 7, ground := Ground.phase }, { on := 8, ground := Ground.phase }, { on := 9, ground := Ground.phase }, { on := 10, ground := Ground.phase }, { on := 11, ground := Ground.phase }, { on := 12, ground := Ground.phase }, { on := 13, ground := Ground.phase }, { on := 14, ground := Ground.phase }, { on := 15, ground := Ground.phase }, { on := 16, ground := Ground.phase }], guard := none }) rfl (fun K hK => ?_) ?_
                      · go_simp
                        refine hK.out _ _ ?hs20 (fun hS20 => ?_)
                        case hs20 => ((try dsimp only); first | with_reducible exact zD | with_reducible exact zV | with_reducible exact zV1 | with_reducible exact zV3 | with_reducible exact zV4)
                        clear hK K hS17
                        refine wpAnyH_done (by kernel_rfl) ?_ _
                        clear zD zV zV1 zV3 zV4 yV yV1 y3 fz3
                        go_wp2_with fail
                        go_roundg (o.hits.length - (j + 1))
                        case measure => have := G4.out.1; have := G4.out.2; omega
                        case rel => first | exact FIN.out | (rw [ej]; exact FIN.out)
                      exact AllReadyH.nil
                    exact AllReadyH.nil
                  exact AllReadyH.nil
                refine AllReadyH.cons (o := { dst := some 93, op := Op.buildSlice 66 1 #[(0, Operand.tmp 92)], type := 66, pos := "law.go:233", after := #[{ on := 14, ground := Ground.data }], guard := none }) rfl (fun K hK => ?_) ?_
                · go_simp
                  refine hK.out _ _ ?hs21 (fun hS21 => ?_)
                  case hs21 => ((try dsimp only); first | with_reducible exact zD | with_reducible exact zV | with_reducible exact zV1 | with_reducible exact zV3 | with_reducible exact zV4)
                  clear hK K hS0
                  refine wpAnyH_ready (rs := [6]) (by kernel_rfl) (by simp) ?_
                  refine AllReadyH.cons (o := { dst := some 84, op := Op.load 66 (Operand.tmp 83), type := 66, pos := "law.go:233", after := #[{ on := 5, ground := Ground.data }], guard := none }) rfl (fun K hK => ?_) ?_
                  · go_simp
                    refine hK.out _ _ ?hs22 (fun hS22 => ?_)
                    case hs22 => ((try dsimp only); first | with_reducible exact zD | with_reducible exact zV | with_reducible exact zV1 | with_reducible exact zV3 | with_reducible exact zV4)
                    clear hK K hS21
                    refine wpAnyH_ready (rs := [16]) (by kernel_rfl) (by simp) ?_
                    refine AllReadyH.cons (o := { dst := some 94, op := Op.call { callee := Callee.builtin Builtin.append, args := #[Operand.tmp 84, Operand.tmp 93], argTypes := #[66, 66] }, type := 66, pos := "law.go:233", after := #[{ on := 6, ground := Ground.data }, { on := 15, ground := Ground.data }], guard := none }) rfl (fun K hK => ?_) ?_
                    · refine rs_append_run (by rfl) _ _ _ (by rfl) (by rfl) (by rfl) RUN1.out ?_
                      refine hK.out _ _ ?hs23 (fun hS23 => ?_)
                      case hs23 => ((try dsimp only); first | with_reducible exact zD | with_reducible exact zV | with_reducible exact zV1 | with_reducible exact zV3 | with_reducible exact zV4)
                      clear hK K hS22
                      refine wpAnyH_take (i := 17) (oi := { dst := some 95, op := Op.indexAddr 44 (Operand.tmp 78) (Operand.tmp 79), type := 0, pos := "law.go:233", after := #[{ on := 0, ground := Ground.data }, { on := 1, ground := Ground.data }, { on := 0, ground := Ground.phase }, { on := 1, ground := Ground.phase }, { on := 2, ground := Ground.phase }, { on := 3, ground := Ground.phase }, { on := 4, ground := Ground.phase }, { on := 5, ground := Ground.phase }, { on := 6, ground := Ground.phase }, { on := 7, ground := Ground.phase }, { on := 8, ground := Ground.phase }, { on := 9, ground := Ground.phase }, { on := 10, ground := Ground.phase }, { on := 11, ground := Ground.phase }, { on := 12, ground := Ground.phase }, { on := 13, ground := Ground.phase }, { on := 14, ground := Ground.phase }, { on := 15, ground := Ground.phase }, { on := 16, ground := Ground.phase }], guard := none }) (v := ?_) rfl (by kernel_rfl) (by kernel_rfl) (by kernel_rfl) (fun _ _ _ h => h) (Or.inl ⟨by rfl, ?hy24⟩) hS23 ?_
                      case hy24 => (intro w hSw; (try dsimp only at hSw); go_simp; try with_reducible rfl)
                      try simp only [Act.put, List.setIfInBounds_toArray, List.set_cons_zero, List.set_cons_succ]
                      refine wpAnyH_take (i := 18) (oi := { dst := some 96, op := Op.fieldAddr 68 (Operand.tmp 95) 0, type := 0, pos := "law.go:233", after := #[{ on := 17, ground := Ground.data }, { on := 0, ground := Ground.phase }, { on := 1, ground := Ground.phase }, { on := 2, ground := Ground.phase }, { on := 3, ground := Ground.phase }, { on := 4, ground := Ground.phase }, { on := 5, ground := Ground.phase }, { on := 6, ground := Ground.phase }, { on := 7, ground := Ground.phase }, { on := 8, ground := Ground.phase }, { on := 9, ground := Ground.phase }, { on := 10, ground := Ground.phase }, { on := 11, ground := Ground.phase }, { on := 12, ground := Ground.phase }, { on := 13, ground := Ground.phase }, { on := 14, ground := Ground.phase }, { on := 15, ground := Ground.phase }, { on := 16, ground := Ground.phase }], guard := none }) (v := ?_) rfl (by kernel_rfl) (by kernel_rfl) (by kernel_rfl) (fun _ _ _ h => h) (Or.inl ⟨by rfl, ?hy25⟩) hS23 ?_
                      case hy25 => (intro w hSw; (try dsimp only at hSw); go_simp; try with_reducible rfl)
                      try simp only [Act.put, List.setIfInBounds_toArray, List.set_cons_zero, List.set_cons_succ]
                      refine wpAnyH_ready (rs := [19]) (by kernel_rfl) (by simp) ?_
                      refine AllReadyH.cons (o := { dst := none, op := Op.store 66 (Operand.tmp 96) (Operand.tmp 94), type := 0, pos := "law.go:233", after := #[{ on := 18, ground := Ground.data }, { on := 16, ground := Ground.data }, { on := 16, ground := Ground.chain }, { on := 0, ground := Ground.phase }, { on := 1, ground := Ground.phase }, { on := 2, ground := Ground.phase }, { on := 3, ground := Ground.phase }, { on := 4, ground := Ground.phase }, { on := 5, ground := Ground.phase }, { on := 6, ground := Ground.phase }, { on := 7, ground := Ground.phase }, { on := 8, ground := Ground.phase }, { on := 9, ground := Ground.phase }, { on := 10, ground := Ground.phase }, { on := 11, ground := Ground.phase }, { on := 12, ground := Ground.phase }, { on := 13, ground := Ground.phase }, { on := 14, ground := Ground.phase }, { on := 15, ground := Ground.phase }, { on := 16, ground := Ground.phase }], guard := none }) rfl (fun K hK => ?_) ?_
                      · go_simp
                        refine hK.out _ _ ?hs26 (fun hS26 => ?_)
                        case hs26 => ((try dsimp only); first | with_reducible exact zD | with_reducible exact zV | with_reducible exact zV1 | with_reducible exact zV3 | with_reducible exact zV4)
                        clear hK K hS23
                        refine wpAnyH_done (by kernel_rfl) ?_ _
                        clear zD zV zV1 zV3 zV4 yV yV1 y3 fz3
                        go_wp2_with fail
                        go_roundg (o.hits.length - (j + 1))
                        case measure => have := G4.out.1; have := G4.out.2; omega
                        case rel => first | exact FIN.out | (rw [ej]; exact FIN.out)
                      exact AllReadyH.nil
                    exact AllReadyH.nil
                  exact AllReadyH.nil
                exact AllReadyH.nil
              · have te : (xq.id % 2 == 0) = false := beq_eq_false_iff_ne.2 hev
                have tm : (xq.id.tmod 2 == 0) = false := by rw [Int.tmod_eq_emod_of_nonneg id0]; exact te
                rw [if_neg hev, List.append_nil] at hst
                have FIN := Lib.hid (show HvRel ob k wk o.hits (o.hits.length - (j + 1)) (.int .i64 ((j : Int) + 1)) wj from ⟨j + 1, vh, congrArg (Value.int .i64) (Int.natCast_succ j).symm, hjl, rfl, by rw [hst]; exact K⟩)
                clear hgk hkl hok E hmo K TXj h2 hr hl hx hrow hcap hj hgj hjl hxq xr bh hst hfl hev
                go_wp2_with fail
                go_roundg (o.hits.length - (j + 1))
                case measure => have := G4.out.1; have := G4.out.2; omega
                case rel => first | exact FIN.out | (rw [ej]; exact FIN.out)
            · obtain rfl : j = o.hits.length := Nat.le_antisymm hj (Nat.not_lt.1 hjl)
              have t1 : decide ((o.hits.length : Int) < (o.hits.length : Int)) = false := decide_eq_false (Int.lt_irrefl _)
              have t2 : decide (o.hits.length < o.hits.length) = false := decide_eq_false (Nat.lt_irrefl _)
              rw [List.take_length] at K
              have R4 : LvRel ob k wk o.hits o.lost o.lost.length (.int .i64 0) wj := ⟨0, vh, _, rfl, Nat.zero_le _, rfl, by simpa [evL] using K⟩
              clear hgk hkl hok E hmo K TXj h2 hr hl hx hrow hcap hj hgj hjl
              go_upto_region 17 with fail
              clear x0 t1 t2
              go_wp2_with fail
              go_loopg [14] o.lost.length (fun gh v14 wv => LvRel ob k wk o.hits o.lost gh v14 wv)
              case atStart => exact R4
              case round =>
                clear R4
                obtain ⟨j, vh, vl, rfl, hj, hgj, K⟩ := hrel
                rename World => wl
                obtain ⟨hgk, hkl, hok, E, hmo⟩ := G3.out
                have TXj : Turn (fun _ => False) X wl := E.world K.turn
                have hre : ∀ W, Turn (fun _ => False) X W → ∃ (l4 : Option Addr) (lb lo1 lc1 : Nat), W.cell? ⟨b1', of1 + k * 4 + 1, none⟩ = some (.slice l4 o.lost.length lc1) ∧ (o.lost = [] ∨ l4 = some ⟨lb, lo1, none⟩) ∧ ∀ (j : Nat) (x : Int), o.lost[j]? = some x → W.cell? ⟨lb, lo1 + j, none⟩ = some (.int .i64 x) := fun W TWX => by
                  obtain ⟨aX, bX', oX, cX, eX, hX1, hX2⟩ := H1.out.2.2.2.2.1
                  have eX1 : (some ⟨b1', of1, none⟩ : Option Addr) = aX := by injection eX
                  obtain ⟨hvX, _⟩ := hX1.resolve_left (fun e => by rw [e] at hok; simp at hok)
                  rw [hvX] at eX1
                  injection eX1 with eX1
                  injection eX1 with eb eo
                  subst eb eo
                  obtain ⟨vh2, vl2, _, _, _, _, _, _, hr2, _, hh2⟩ := hX2 k o hok
                  obtain ⟨l4, lb, lo1, lc1, rfl, hrow2, hx2⟩ := hh2
                  exact ⟨l4, lb, lo1, lc1, TWX.cell id (hr2 1 _ rfl), hrow2.imp id (fun q => q.1), fun j x hj => TWX.cell id (hx2 j x hj)⟩
                obtain ⟨l4, lb, lo1, lc1, x0, hrow, hx⟩ := hre wl TXj
                by_cases hjl : j < o.lost.length
                · obtain ⟨xq, hxq⟩ : ∃ x, o.lost[j]? = some x := ⟨_, List.getElem?_eq_getElem hjl⟩
                  obtain rfl := hrow.resolve_left (fun e => by rw [e] at hjl; exact absurd hjl (Nat.not_lt_zero j))
                  have xi := hx j xq hxq
                  obtain ⟨id0, id1⟩ := hmo.2.2.2 xq (List.mem_of_getElem? hxq)
                  have t1 : decide ((j : Int) < (o.lost.length : Int)) = true := decide_eq_true (natcast_lt hjl)
                  have t2 : decide (j < o.lost.length) = true := decide_eq_true hjl
                  have t3 : (0 : Int) ≤ (j : Int) := Int.natCast_nonneg j
                  have t4 : (j : Int) < (o.lost.length : Int) := natcast_lt hjl
                  have ej : wrap64 ((j : Int) + 1) = (j : Int) + 1 := wrap_lt hjl hmo.2.1 (by decide)
                  have hst := evL_step hxq
                  have hfl : (evL (o.lost.take j)).length ≤ 100 := evL_len hmo.2.1 j
                  have G4 := Lib.hid (And.intro hgj hjl)
                  by_cases hev : xq % 2 = 0
                  · have te : (xq % 2 == 0) = true := beq_iff_eq.2 hev
                    have tm : (xq.tmod 2 == 0) = true := by rw [Int.tmod_eq_emod_of_nonneg id0]; exact te
                    rw [if_pos hev] at hst
                    obtain ⟨V, hV⟩ : ∃ V, V = wl.drew := ⟨_, rfl⟩
                    have TV : Turn (fun _ => False) wl V := by rw [hV]; exact (Turn.refl _ wl).drewN 1
                    have KV := K.turns TV
                    obtain ⟨v', W3, hrun, cW, bW, TW, KW⟩ := KV.addL hfl xq
                    rw [← hst] at KW
                    have yV : V.cell? ⟨ob, k * 4 + 1, none⟩ = some vl := KV.cl
                    have yV1 : (V.alloc (.cells #[.int .i64 xq] 3)).cell? ⟨ob, k * 4 + 1, none⟩ = some vl := past yV
                    have y3 := cW
                    have fz3 : W3.frozen? ⟨ob, k * 4 + 1, none⟩ = false := bW.fz _
                    have FF := Lib.hid (show ∀ W, Turn (fun _ => False) X W → W.cell? ⟨b1', of1 + k * 4 + 1, none⟩ = some (.slice (some ⟨lb, lo1, none⟩) o.lost.length lc1) ∧ W.cell? ⟨lb, lo1 + j, none⟩ = some (.int .i64 xq) from fun W TWX => by
                      obtain ⟨l42, lb2, lo2, lc2, c2, hrow2, hx2⟩ := hre X (Turn.refl _ X)
                      have w0 := TXj.cell id c2
                      rw [x0] at w0
                      obtain rfl := hrow2.resolve_left (fun e => by rw [e] at hjl; exact absurd hjl (Nat.not_lt_zero j))
                      injection w0 with w0
                      injection w0 with w1 w2 w3
                      injection w1 with w1
                      injection w1 with w4 w5
                      subst w4 w5 w3
                      exact ⟨TWX.cell id c2, TWX.cell id (hx2 j xq hxq)⟩)
                    have TXV := TXj.trans TV
                    have zV := FF.out V TXV
                    have zD := zV
                    rw [hV] at zD
                    have zV1 := FF.out _ (TXV.alloc (.cells #[.int .i64 xq] 3))
                    have zV3 := FF.out _ (E.world TW)
                    have zV4 := FF.out _ (E.world KW.turn)
                    obtain ⟨avh, cvh, rfl, -⟩ := own_slice KV.ol
                    have FIN := Lib.hid (show LvRel ob k wk o.hits o.lost (o.lost.length - (j + 1)) (.int .i64 ((j : Int) + 1)) (W3.setCell ⟨ob, k * 4 + 1, none⟩ v') from ⟨j + 1, vh, v', congrArg (Value.int .i64) (Int.natCast_succ j).symm, hjl, rfl, KW⟩)
                    obtain ⟨av', cv', rfl, -⟩ := own_slice KW.ol
                    generalize (evL (o.lost.take j)).length = nf at *
                    generalize (evL (o.lost.take (j + 1))).length = nf1 at *
                    have RUN1 := Lib.hid hrun
                    clear hgk hkl hok E hmo K TXj hx hrow hj hgj hjl hxq hst hfl hev TV KV hrun cW bW TW KW FF TXV hre
                    go_upto_region 21 with fail
                    clear x0 xi te tm
                    refine wp_region_held_drew (S := (fun w' => w'.cell? ⟨b1', of1 + k * 4 + 1, none⟩ = some (.slice (some ⟨lb, lo1, none⟩) o.lost.length lc1) ∧ w'.cell? ⟨lb, lo1 + j, none⟩ = some (.int .i64 xq))) (by kernel_rfl) ?hs0 (fun hS0 => ?_)
                    case hs0 => ((try dsimp only); first | with_reducible exact zD | with_reducible exact zV | with_reducible exact zV1 | with_reducible exact zV3 | with_reducible exact zV4)
                    rw [← hV] at hS0 ⊢
                    clear hV
                    refine wpAnyH_take (i := 0) (oi := { dst := some 117, op := Op.move (Operand.tmp 11), type := 44, pos := "law.go:238", after := #[], guard := none }) (v := ?_) rfl (by kernel_rfl) (by kernel_rfl) (by kernel_rfl) (fun _ _ _ h => h) (Or.inl ⟨by rfl, ?hy1⟩) hS0 ?_
                    case hy1 => (intro w hSw; (try dsimp only at hSw); go_simp; try with_reducible rfl)
                    try simp only [Act.put, List.setIfInBounds_toArray, List.set_cons_zero, List.set_cons_succ]
                    refine wpAnyH_take (i := 1) (oi := { dst := some 118, op := Op.move (Operand.tmp 12), type := 3, pos := "law.go:238", after := #[], guard := none }) (v := ?_) rfl (by kernel_rfl) (by kernel_rfl) (by kernel_rfl) (fun _ _ _ h => h) (Or.inl ⟨by rfl, ?hy2⟩) hS0 ?_
                    case hy2 => (intro w hSw; (try dsimp only at hSw); go_simp; try with_reducible rfl)
                    try simp only [Act.put, List.setIfInBounds_toArray, List.set_cons_zero, List.set_cons_succ]
                    refine wpAnyH_take (i := 2) (oi := { dst := some 119, op := Op.move (Operand.tmp 11), type := 44, pos := "law.go:238", after := #[], guard := none }) (v := ?_) rfl (by kernel_rfl) (by kernel_rfl) (by kernel_rfl) (fun _ _ _ h => h) (Or.inl ⟨by rfl, ?hy3⟩) hS0 ?_
                    case hy3 => (intro w hSw; (try dsimp only at hSw); go_simp; try with_reducible rfl)
                    try simp only [Act.put, List.setIfInBounds_toArray, List.set_cons_zero, List.set_cons_succ]
                    refine wpAnyH_take (i := 3) (oi := { dst := some 120, op := Op.move (Operand.tmp 12), type := 3, pos := "law.go:238", after := #[], guard := none }) (v := ?_) rfl (by kernel_rfl) (by kernel_rfl) (by kernel_rfl) (fun _ _ _ h => h) (Or.inl ⟨by rfl, ?hy4⟩) hS0 ?_
                    case hy4 => (intro w hSw; (try dsimp only at hSw); go_simp; try with_reducible rfl)
                    try simp only [Act.put, List.setIfInBounds_toArray, List.set_cons_zero, List.set_cons_succ]
                    refine wpAnyH_take (i := 4) (oi := { dst := some 121, op := Op.indexAddr 44 (Operand.tmp 119) (Operand.tmp 120), type := 0, pos := "law.go:238", after := #[{ on := 2, ground := Ground.data }, { on := 3, ground := Ground.data }], guard := none }) (v := ?_) rfl (by kernel_rfl) (by kernel_rfl) (by kernel_rfl) (fun _ _ _ h => h) (Or.inl ⟨by rfl, ?hy5⟩) hS0 ?_
                    case hy5 => (intro w hSw; (try dsimp only at hSw); go_simp; try with_reducible rfl)
                    try simp only [Act.put, List.setIfInBounds_toArray, List.set_cons_zero, List.set_cons_succ]
                    refine wpAnyH_take (i := 5) (oi := { dst := some 122, op := Op.fieldAddr 68 (Operand.tmp 121) 1, type := 0, pos := "law.go:238", after := #[{ on := 4, ground := Ground.data }], guard := none }) (v := ?_) rfl (by kernel_rfl) (by kernel_rfl) (by kernel_rfl) (fun _ _ _ h => h) (Or.inl ⟨by rfl, ?hy6⟩) hS0 ?_
                    case hy6 => (intro w hSw; (try dsimp only at hSw); go_simp; try with_reducible rfl)
                    try simp only [Act.put, List.setIfInBounds_toArray, List.set_cons_zero, List.set_cons_succ]
                    refine wpAnyH_take (i := 7) (oi := { dst := some 124, op := Op.move (Operand.tmp 10), type := 44, pos := "law.go:238", after := #[], guard := none }) (v := ?_) rfl (by kernel_rfl) (by kernel_rfl) (by kernel_rfl) (fun _ _ _ h => h) (Or.inl ⟨by rfl, ?hy7⟩) hS0 ?_
                    case hy7 => (intro w hSw; (try dsimp only at hSw); go_simp; try with_reducible rfl)
                    try simp only [Act.put, List.setIfInBounds_toArray, List.set_cons_zero, List.set_cons_succ]
                    refine wpAnyH_take (i := 8) (oi := { dst := some 125, op := Op.move (Operand.tmp 12), type := 3, pos := "law.go:238", after := #[], guard := none }) (v := ?_) rfl (by kernel_rfl) (by kernel_rfl) (by kernel_rfl) (fun _ _ _ h => h) (Or.inl ⟨by rfl, ?hy8⟩) hS0 ?_
                    case hy8 => (intro w hSw; (try dsimp only at hSw); go_simp; try with_reducible rfl)
                    try simp only [Act.put, List.setIfInBounds_toArray, List.set_cons_zero, List.set_cons_succ]
                    refine wpAnyH_take (i := 9) (oi := { dst := some 126, op := Op.indexAddr 44 (Operand.tmp 124) (Operand.tmp 125), type := 0, pos := "law.go:238", after := #[{ on := 7, ground := Ground.data }, { on := 8, ground := Ground.data }], guard := none }) (v := ?_) rfl (by kernel_rfl) (by kernel_rfl) (by kernel_rfl) (fun _ _ _ h => h) (Or.inl ⟨by rfl, ?hy9⟩) hS0 ?_
                    case hy9 => (intro w hSw; (try dsimp only at hSw); go_simp; try with_reducible rfl)
                    try simp only [Act.put, List.setIfInBounds_toArray, List.set_cons_zero, List.set_cons_succ]
                    refine wpAnyH_take (i := 10) (oi := { dst := some 127, op := Op.fieldAddr 68 (Operand.tmp 126) 1, type := 0, pos := "law.go:238", after := #[{ on := 9, ground := Ground.data }], guard := none }) (v := ?_) rfl (by kernel_rfl) (by kernel_rfl) (by kernel_rfl) (fun _ _ _ h => h) (Or.inl ⟨by rfl, ?hy10⟩) hS0 ?_
                    case hy10 => (intro w hSw; (try dsimp only at hSw); go_simp; try with_reducible rfl)
                    try simp only [Act.put, List.setIfInBounds_toArray, List.set_cons_zero, List.set_cons_succ]
                    refine wpAnyH_take (i := 11) (oi := { dst := some 128, op := Op.load 46 (Operand.tmp 127), type := 46, pos := "law.go:238", after := #[{ on := 10, ground := Ground.data }], guard := none }) (v := ?_) rfl (by kernel_rfl) (by kernel_rfl) (by kernel_rfl) (fun _ _ _ h => h) (Or.inl ⟨by rfl, ?hy11⟩) hS0 ?_
                    case hy11 => (intro w hSw; (try dsimp only at hSw); go_simp; try with_reducible rfl)
                    try simp only [Act.put, List.setIfInBounds_toArray, List.set_cons_zero, List.set_cons_succ]
                    refine wpAnyH_take (i := 12) (oi := { dst := some 129, op := Op.move (Operand.tmp 14), type := 3, pos := "law.go:238", after := #[], guard := none }) (v := ?_) rfl (by kernel_rfl) (by kernel_rfl) (by kernel_rfl) (fun _ _ _ h => h) (Or.inl ⟨by rfl, ?hy12⟩) hS0 ?_
                    case hy12 => (intro w hSw; (try dsimp only at hSw); go_simp; try with_reducible rfl)
                    try simp only [Act.put, List.setIfInBounds_toArray, List.set_cons_zero, List.set_cons_succ]
                    refine wpAnyH_take (i := 13) (oi := { dst := some 130, op := Op.indexAddr 46 (Operand.tmp 128) (Operand.tmp 129), type := 0, pos := "law.go:238", after := #[{ on := 11, ground := Ground.data }, { on := 12, ground := Ground.data }], guard := none }) (v := ?_) rfl (by kernel_rfl) (by kernel_rfl) (by kernel_rfl) (fun _ _ _ h => h) (Or.inl ⟨by rfl, ?hy13⟩) hS0 ?_
                    case hy13 => (intro w hSw; (try dsimp only at hSw); go_simp; try with_reducible rfl)
                    try simp only [Act.put, List.setIfInBounds_toArray, List.set_cons_zero, List.set_cons_succ]
                    refine wpAnyH_take (i := 14) (oi := { dst := some 131, op := Op.load 3 (Operand.tmp 130), type := 3, pos := "law.go:238", after := #[{ on := 13, ground := Ground.data }], guard := none }) (v := ?_) rfl (by kernel_rfl) (by kernel_rfl) (by kernel_rfl) (fun _ _ _ h => h) (Or.inl ⟨by rfl, ?hy14⟩) hS0 ?_
                    case hy14 => (intro w hSw; (try dsimp only at hSw); go_simp; try with_reducible rfl)
                    try simp only [Act.put, List.setIfInBounds_toArray, List.set_cons_zero, List.set_cons_succ]
                    refine wpAnyH_ready (rs := [6, 15]) (by kernel_rfl) (by simp) ?_
                    refine AllReadyH.cons (o := { dst := some 123, op := Op.load 46 (Operand.tmp 122), type := 46, pos := "law.go:238", after := #[{ on := 5, ground := Ground.data }], guard := none }) rfl (fun K hK => ?_) ?_
                    · go_simp
                      refine hK.out _ _ ?hs15 (fun hS15 => ?_)
                      case hs15 => ((try dsimp only); first | with_reducible exact zD | with_reducible exact zV | with_reducible exact zV1 | with_reducible exact zV3 | with_reducible exact zV4)
                      clear hK K hS0
                      refine wpAnyH_ready (rs := [15]) (by kernel_rfl) (by simp) ?_
                      refine AllReadyH.cons (o := { dst := some 132, op := Op.buildSlice 46 1 #[(0, Operand.tmp 131)], type := 46, pos := "law.go:238", after := #[{ on := 14, ground := Ground.data }], guard := none }) rfl (fun K hK => ?_) ?_
                      · go_simp
                        refine hK.out _ _ ?hs16 (fun hS16 => ?_)
                        case hs16 => ((try dsimp only); first | with_reducible exact zD | with_reducible exact zV | with_reducible exact zV1 | with_reducible exact zV3 | with_reducible exact zV4)
                        clear hK K hS15
                        refine wpAnyH_ready (rs := [16]) (by kernel_rfl) (by simp) ?_
                        refine AllReadyH.cons (o := { dst := some 133, op := Op.call { callee := Callee.builtin Builtin.append, args := #[Operand.tmp 123, Operand.tmp 132], argTypes := #[46, 46] }, type := 46, pos := "law.go:238", after := #[{ on := 6, ground := Ground.data }, { on := 15, ground := Ground.data }], guard := none }) rfl (fun K hK => ?_) ?_
                        · refine rs_append_run (by rfl) _ _ _ (by rfl) (by rfl) (by rfl) RUN1.out ?_
                          refine hK.out _ _ ?hs17 (fun hS17 => ?_)
                          case hs17 => ((try dsimp only); first | with_reducible exact zD | with_reducible exact zV | with_reducible exact zV1 | with_reducible exact zV3 | with_reducible exact zV4)
                          clear hK K hS16
                          refine wpAnyH_take (i := 17) (oi := { dst := some 134, op := Op.indexAddr 44 (Operand.tmp 117) (Operand.tmp 118), type := 0, pos := "law.go:238", after := #[{ on := 0, ground := Ground.data }, { on := 1, ground := Ground.data }, { on := 0, ground := Ground.phase }, { on := 1, ground := Ground.phase }, { on := 2, ground := Ground.phase }, { on := 3, ground := Ground.phase }, { on := 4, ground := Ground.phase }, { on := 5, ground := Ground.phase }, { on := 6, ground := Ground.phase }, { on := 7, ground := Ground.phase }, { on := 8, ground := Ground.phase }, { on := 9, ground := Ground.phase }, { on := 10, ground := Ground.phase }, { on := 11, ground := Ground.phase }, { on := 12, ground := Ground.phase }, { on := 13, ground := Ground.phase }, { on := 14, ground := Ground.phase }, { on := 15, ground := Ground.phase }, { on := 16, ground := Ground.phase }], guard := none }) (v := ?_) rfl (by kernel_rfl) (by kernel_rfl) (by kernel_rfl) (fun _ _ _ h => h) (Or.inl ⟨by rfl, ?hy18⟩) hS17 ?_
                          case hy18 => (intro w hSw; (try dsimp only at hSw); go_simp; try with_reducible rfl)
                          try simp only [Act.put, List.setIfInBounds_toArray, List.set_cons_zero, List.set_cons_succ]
                          refine wpAnyH_take (i := 18) (oi := { dst := some 135, op := Op.fieldAddr 68 (Operand.tmp 134) 1, type := 0, pos := "law.go:238", after := #[{ on := 17, ground := Ground.data }, { on := 0, ground := Ground.phase }, { on := 1, ground := Ground.phase }, { on := 2, ground := Ground.phase }, { on := 3, ground := Ground.phase }, { on := 4, ground := Ground.phase }, { on := 5, ground := Ground.phase }, { on := 6, ground := Ground.phase }, { on := 7, ground := Ground.phase }, { on := 8, ground := Ground.phase }, { on := 9, ground := Ground.phase }, { on := 10, ground := Ground.phase }, { on := 11, ground := Ground.phase }, { on := 12, ground := Ground.phase }, { on := 13, ground := Ground.phase }, { on := 14, ground := Ground.phase }, { on := 15, ground := Ground.phase }, { on := 16, ground := Ground.phase }], guard := none }) (v := ?_) rfl (by kernel_rfl) (by kernel_rfl) (by kernel_rfl) (fun _ _ _ h => h) (Or.inl ⟨by rfl, ?hy19⟩) hS17 ?_
                          case hy19 => (intro w hSw; (try dsimp only at hSw); go_simp; try with_reducible rfl)
                          try simp only [Act.put, List.setIfInBounds_toArray, List.set_cons_zero, List.set_cons_succ]
                          refine wpAnyH_ready (rs := [19]) (by kernel_rfl) (by simp) ?_
                          refine AllReadyH.cons (o := { dst := none, op := Op.store 46 (Operand.tmp 135) (Operand.tmp 133), type := 0, pos := "law.go:238", after := #[{ on := 18, ground := Ground.data }, { on := 16, ground := Ground.data }, { on := 16, ground := Ground.chain }, { on := 0, ground := Ground.phase }, { on := 1, ground := Ground.phase }, { on := 2, ground := Ground.phase }, { on := 3, ground := Ground.phase }, { on := 4, ground := Ground.phase }, { on := 5, ground := Ground.phase }, { on := 6, ground := Ground.phase }, { on := 7, ground := Ground.phase }, { on := 8, ground := Ground.phase }, { on := 9, ground := Ground.phase }, { on := 10, ground := Ground.phase }, { on := 11, ground := Ground.phase }, { on := 12, ground := Ground.phase }, { on := 13, ground := Ground.phase }, { on := 14, ground := Ground.phase }, { on := 15, ground := Ground.phase }, { on := 16, ground := Ground.phase }], guard := none }) rfl (fun K hK => ?_) ?_
                          · go_simp
                            refine hK.out _ _ ?hs20 (fun hS20 => ?_)
                            case hs20 => ((try dsimp only); first | with_reducible exact zD | with_reducible exact zV | with_reducible exact zV1 | with_reducible exact zV3 | with_reducible exact zV4)
                            clear hK K hS17
                            refine wpAnyH_done (by kernel_rfl) ?_ _
                            clear zD zV zV1 zV3 zV4 yV yV1 y3 fz3
                            go_wp2_with fail
                            go_roundg (o.lost.length - (j + 1))
                            case measure => have := G4.out.1; have := G4.out.2; omega
                            case rel => first | exact FIN.out | (rw [ej]; exact FIN.out)
                          exact AllReadyH.nil
                        exact AllReadyH.nil
                      exact AllReadyH.nil
                    refine AllReadyH.cons (o := { dst := some 132, op := Op.buildSlice 46 1 #[(0, Operand.tmp 131)], type := 46, pos := "law.go:238", after := #[{ on := 14, ground := Ground.data }], guard := none }) rfl (fun K hK => ?_) ?_
                    · go_simp
                      refine hK.out _ _ ?hs21 (fun hS21 => ?_)
                      case hs21 => ((try dsimp only); first | with_reducible exact zD | with_reducible exact zV | with_reducible exact zV1 | with_reducible exact zV3 | with_reducible exact zV4)
                      clear hK K hS0
                      refine wpAnyH_ready (rs := [6]) (by kernel_rfl) (by simp) ?_
                      refine AllReadyH.cons (o := { dst := some 123, op := Op.load 46 (Operand.tmp 122), type := 46, pos := "law.go:238", after := #[{ on := 5, ground := Ground.data }], guard := none }) rfl (fun K hK => ?_) ?_
                      · go_simp
                        refine hK.out _ _ ?hs22 (fun hS22 => ?_)
                        case hs22 => ((try dsimp only); first | with_reducible exact zD | with_reducible exact zV | with_reducible exact zV1 | with_reducible exact zV3 | with_reducible exact zV4)
                        clear hK K hS21
                        refine wpAnyH_ready (rs := [16]) (by kernel_rfl) (by simp) ?_
                        refine AllReadyH.cons (o := { dst := some 133, op := Op.call { callee := Callee.builtin Builtin.append, args := #[Operand.tmp 123, Operand.tmp 132], argTypes := #[46, 46] }, type := 46, pos := "law.go:238", after := #[{ on := 6, ground := Ground.data }, { on := 15, ground := Ground.data }], guard := none }) rfl (fun K hK => ?_) ?_
                        · refine rs_append_run (by rfl) _ _ _ (by rfl) (by rfl) (by rfl) RUN1.out ?_
                          refine hK.out _ _ ?hs23 (fun hS23 => ?_)
                          case hs23 => ((try dsimp only); first | with_reducible exact zD | with_reducible exact zV | with_reducible exact zV1 | with_reducible exact zV3 | with_reducible exact zV4)
                          clear hK K hS22
                          refine wpAnyH_take (i := 17) (oi := { dst := some 134, op := Op.indexAddr 44 (Operand.tmp 117) (Operand.tmp 118), type := 0, pos := "law.go:238", after := #[{ on := 0, ground := Ground.data }, { on := 1, ground := Ground.data }, { on := 0, ground := Ground.phase }, { on := 1, ground := Ground.phase }, { on := 2, ground := Ground.phase }, { on := 3, ground := Ground.phase }, { on := 4, ground := Ground.phase }, { on := 5, ground := Ground.phase }, { on := 6, ground := Ground.phase }, { on := 7, ground := Ground.phase }, { on := 8, ground := Ground.phase }, { on := 9, ground := Ground.phase }, { on := 10, ground := Ground.phase }, { on := 11, ground := Ground.phase }, { on := 12, ground := Ground.phase }, { on := 13, ground := Ground.phase }, { on := 14, ground := Ground.phase }, { on := 15, ground := Ground.phase }, { on := 16, ground := Ground.phase }], guard := none }) (v := ?_) rfl (by kernel_rfl) (by kernel_rfl) (by kernel_rfl) (fun _ _ _ h => h) (Or.inl ⟨by rfl, ?hy24⟩) hS23 ?_
                          case hy24 => (intro w hSw; (try dsimp only at hSw); go_simp; try with_reducible rfl)
                          try simp only [Act.put, List.setIfInBounds_toArray, List.set_cons_zero, List.set_cons_succ]
                          refine wpAnyH_take (i := 18) (oi := { dst := some 135, op := Op.fieldAddr 68 (Operand.tmp 134) 1, type := 0, pos := "law.go:238", after := #[{ on := 17, ground := Ground.data }, { on := 0, ground := Ground.phase }, { on := 1, ground := Ground.phase }, { on := 2, ground := Ground.phase }, { on := 3, ground := Ground.phase }, { on := 4, ground := Ground.phase }, { on := 5, ground := Ground.phase }, { on := 6, ground := Ground.phase }, { on := 7, ground := Ground.phase }, { on := 8, ground := Ground.phase }, { on := 9, ground := Ground.phase }, { on := 10, ground := Ground.phase }, { on := 11, ground := Ground.phase }, { on := 12, ground := Ground.phase }, { on := 13, ground := Ground.phase }, { on := 14, ground := Ground.phase }, { on := 15, ground := Ground.phase }, { on := 16, ground := Ground.phase }], guard := none }) (v := ?_) rfl (by kernel_rfl) (by kernel_rfl) (by kernel_rfl) (fun _ _ _ h => h) (Or.inl ⟨by rfl, ?hy25⟩) hS23 ?_
                          case hy25 => (intro w hSw; (try dsimp only at hSw); go_simp; try with_reducible rfl)
                          try simp only [Act.put, List.setIfInBounds_toArray, List.set_cons_zero, List.set_cons_succ]
                          refine wpAnyH_ready (rs := [19]) (by kernel_rfl) (by simp) ?_
                          refine AllReadyH.cons (o := { dst := none, op := Op.store 46 (Operand.tmp 135) (Operand.tmp 133), type := 0, pos := "law.go:238", after := #[{ on := 18, ground := Ground.data }, { on := 16, ground := Ground.data }, { on := 16, ground := Ground.chain }, { on := 0, ground := Ground.phase }, { on := 1, ground := Ground.phase }, { on := 2, ground := Ground.phase }, { on := 3, ground := Ground.phase }, { on := 4, ground := Ground.phase }, { on := 5, ground := Ground.phase }, { on := 6, ground := Ground.phase }, { on := 7, ground := Ground.phase }, { on := 8, ground := Ground.phase }, { on := 9, ground := Ground.phase }, { on := 10, ground := Ground.phase }, { on := 11, ground := Ground.phase }, { on := 12, ground := Ground.phase }, { on := 13, ground := Ground.phase }, { on := 14, ground := Ground.phase }, { on := 15, ground := Ground.phase }, { on := 16, ground := Ground.phase }], guard := none }) rfl (fun K hK => ?_) ?_
                          · go_simp
                            refine hK.out _ _ ?hs26 (fun hS26 => ?_)
                            case hs26 => ((try dsimp only); first | with_reducible exact zD | with_reducible exact zV | with_reducible exact zV1 | with_reducible exact zV3 | with_reducible exact zV4)
                            clear hK K hS23
                            refine wpAnyH_done (by kernel_rfl) ?_ _
                            clear zD zV zV1 zV3 zV4 yV yV1 y3 fz3
                            go_wp2_with fail
                            go_roundg (o.lost.length - (j + 1))
                            case measure => have := G4.out.1; have := G4.out.2; omega
                            case rel => first | exact FIN.out | (rw [ej]; exact FIN.out)
                          exact AllReadyH.nil
                        exact AllReadyH.nil
                      exact AllReadyH.nil
                    exact AllReadyH.nil
                  · have te : (xq % 2 == 0) = false := beq_eq_false_iff_ne.2 hev
                    have tm : (xq.tmod 2 == 0) = false := by rw [Int.tmod_eq_emod_of_nonneg id0]; exact te
                    rw [if_neg hev, List.append_nil] at hst
                    have FIN := Lib.hid (show LvRel ob k wk o.hits o.lost (o.lost.length - (j + 1)) (.int .i64 ((j : Int) + 1)) wl from ⟨j + 1, vh, vl, congrArg (Value.int .i64) (Int.natCast_succ j).symm, hjl, rfl, by rw [hst]; exact K⟩)
                    clear hgk hkl hok E hmo K TXj hx hrow hj hgj hjl hxq hst hfl hev hre
                    go_wp2_with fail
                    go_roundg (o.lost.length - (j + 1))
                    case measure => have := G4.out.1; have := G4.out.2; omega
                    case rel => first | exact FIN.out | (rw [ej]; exact FIN.out)
                · obtain rfl : j = o.lost.length := Nat.le_antisymm hj (Nat.not_lt.1 hjl)
                  have t1 : decide ((o.lost.length : Int) < (o.lost.length : Int)) = false := decide_eq_false (Int.lt_irrefl _)
                  have t2 : decide (o.lost.length < o.lost.length) = false := decide_eq_false (Nat.lt_irrefl _)
                  rw [List.take_length] at K
                  have FIN := Lib.hid (show EvRel ob Os X (Os.length - (k + 1)) (.int .i64 ((k : Int) + 1)) wl from ⟨k + 1, congrArg (Value.int .i64) (Int.natCast_succ k).symm, hkl, rfl, E.step hkl (even_at hok) K⟩)
                  have G5 := Lib.hid (And.intro hgk hkl)
                  clear hgk hkl hok E hmo K TXj hx hrow hj hgj hjl hre
                  go_wp2_with fail
                  go_roundg (Os.length - (k + 1))
                  case measure => have := G5.out.1; have := G5.out.2; omega
                  case rel => first | exact FIN.out | (rw [ek]; exact FIN.out)
        · obtain rfl : k = Os.length := Nat.le_antisymm hk (Nat.not_lt.1 hkl)
          have v1 : decide ((Os.length : Int) < (Os.length : Int)) = false := decide_eq_false (Int.lt_irrefl _)
          have v2 : decide (Os.length < Os.length) = false := decide_eq_false (Nat.lt_irrefl _)
          clear hk hgk hkl
          have hel := even_len Os
          have EO := E.turn
          rw [← hel] at E
          have hEo := E.outs (N := fun k => k < wr.heap.size) (fun q hq => Nat.lt_of_lt_of_le hq H1.out.1.size)
          rw [hel] at hEo
          have KA := Lib.hid (And.intro EO hEo)
          clear E EO hEo hel
          obtain ⟨T2X, bX, rX, hOf, hON, hFN, hob⟩ := H1.out
          obtain ⟨hi, hg, B, hlt, cwf⟩ := G0.out
          obtain ⟨EO, hEo⟩ := KA.out
          have q1 := quOf_le x
          have q2 := ouOf_le y
          have TRE := T2X.trans EO
          have hdE := B.dd.turn TRE (fun _ _ f => f)
          have ownP : ∀ k, P k → k < wr.heap.size := fun k p => B.dd.lt p
          have ownQ : ∀ k, Q k → k < wr.heap.size := fun k p => B.de.lt p
          have hO1 : OutsAt wk P (.slice va Os.length vc) Os := hON.next EO (fun _ _ f => f) (fun _ _ f => f) (fun _ _ _ f => f) (fun k p => .inl (ownP k p))
          have hF1 : HitsAt wk P Os := hFN.next EO (fun _ _ f => f.elim) (fun k p => .inl (ownP k p))
          have mg := hOf.merged
          have mg2 := even_merged hOf
          have D1 := DAt.does (stamp := (i : Int) + 1) (k := ck) (i := ci) (n := cn) (s := cs) (g := cg) (v := .slice va Os.length vc) (Os := Os) hdE HS0.out (wf_of cwf.1 (by omega)) (fun l' lo e => by
            obtain ⟨h1, h2⟩ := B.iS.two2 ci l' lo e
            omega) (fun _ => ⟨hO1, hF1, hOf.ok⟩) (by unfold maxLen; omega)
          obtain ⟨R1, hR1⟩ : ∃ R, doR (quOf x) (ouOf y) S m ((i : Int) + 1) ck ci cn cs cg Os = R := ⟨_, rfl⟩
          obtain ⟨R2, hR2⟩ : ∃ R, doR (quOf x) (ouOf y) T m ((i : Int) + 1) ck ci cn cs cg (evenO Os) = R := ⟨_, rfl⟩
          have iv1 := B.iS.does (by omega) B.mq (stamp := (i : Int) + 1) (k := ck) (i := ci) (n := cn) (s := cs) (g := cg) hOf
          have iv2 := B.iT.does2 (by omega) B.mq (stamp := (i : Int) + 1) (k := ck) (i := ci) (n := cn) (s := cs) (g := cg) mg2.2.2
          have rel := B.rel.does (qu := quOf x) (ou := ouOf y) (outs_sort hOf) (m := m) (stamp := (i : Int) + 1) (k := ck) (i := ci) (n := cn) (s := cs) (g := cg)
          have ms1 := does_ms (qu := quOf x) B.iS (by omega) (m := m) (stamp := (i : Int) + 1) (k := ck) (i := ci) (n := cn) (s := cs) (g := cg) (Os := Os)
          have ms2 := does_ms (qu := quOf x) B.iT (by omega) (m := m) (stamp := (i : Int) + 1) (k := ck) (i := ci) (n := cn) (s := cs) (g := cg) (Os := evenO Os)
          rw [hR1] at D1 iv1 rel ms1
          rw [hR2] at iv2 rel ms2
          unfold cmdL at D1
          have D1 := Lib.hid D1
          have RXk := range_turn rX EO id
          have bXk := bX.turn EO id
          have RX := Lib.hid RXk
          have H2 := Lib.hid (And.intro iv1 (And.intro iv2 (And.intro rel (And.intro ms1 (And.intro ms2 hR2)))))
          clear T2X bX rX hOf hON hFN hob hi hg B hlt cwf EO hEo q1 q2 TRE hdE ownP ownQ hO1 hF1 mg mg2 hR1 hR2 iv1 iv2 rel ms1 ms2 RXk bXk
          unfold cmdL at RX
          go_wp2_with (((with_reducible show wpList _ _ _ ({ dst := some 140, op := Op.load 43 _, type := _, pos := _, after := _, guard := _ } :: _) _ _); refine wpList_load_mid rfl 43 _ rfl xb 0 rfl _ _ RX.out Try.underlying43 rfl size43 ?_))
          with_reducible refine D1.out.mono ?_
          clear D1
          rintro en w4 ⟨av, gv, rfl, P2, D1⟩
          obtain ⟨aa, ac, rfl⟩ := D1.ans.sl
          obtain ⟨la4, lc4, rfl, -⟩ := own_slice D1.gone
          have hA5 := Lib.hid (show ∃ (D2ok : True), True from ⟨trivial, trivial⟩)
          clear hA5
          go_upto_region 23 with fail
          obtain ⟨w5, hw5⟩ : ∃ W, W = w4.alloc (.cells #[.int .i64 R1.err, .int .i64 R1.num, .slice aa R1.ms.length ac] 53) := ⟨_, rfl⟩
          rw [← hw5]
          have T5 : Turn (fun _ => False) w4 w5 := by rw [hw5]; exact (Turn.refl _ w4).alloc _
          have RA : w5.rangeAt w4.heap.size 0 [.int .i64 R1.err, .int .i64 R1.num, .slice aa R1.ms.length ac] := by rw [hw5]; exact range_new w4 [.int .i64 R1.err, .int .i64 R1.num, .slice aa R1.ms.length ac] 53
          have BA : Blk w5 w4.heap.size 53 := by rw [hw5]; exact Blk.new w4 [.int .i64 R1.err, .int .i64 R1.num, .slice aa R1.ms.length ac] 53
          clear hw5
          generalize w4.heap.size = ba at *
          obtain ⟨T2X, bX, rX, hOf, hON, hFN, hob⟩ := H1.out
          obtain ⟨hi, hg, B, hlt, cwf⟩ := G0.out
          obtain ⟨EO, hEo⟩ := KA.out
          obtain ⟨iv1, iv2, rel, ms1, ms2, hR2⟩ := H2.out
          have TRE := T2X.trans EO
          have hdE := B.dd.turn TRE (fun _ _ f => f)
          have hno : ∀ {b : Nat} {t : TypeId}, Blk wk b t → (t ≠ 82 ∧ t ≠ 71 ∧ t ≠ 46 ∧ t ≠ 3 ∧ t ≠ 38) → ¬ P b := fun hb ht => hdE.no hb ht
          have ownP : ∀ k, P k → k < wr.heap.size := fun k p => B.dd.lt p
          have ownQ : ∀ k, Q k → k < wr.heap.size := fun k p => B.de.lt p
          have de5 := ((B.de.turn TRE (fun _ _ f => f)).turn D1.turn (fun k q p => B.sep k p q)).turn T5 (fun _ _ f => f)
          have hO2 : OutsAt w5 Q (.slice (some ⟨ob, 0, none⟩) Os.length Os.length) (evenO Os) := (hEo.next D1.turn (fun k hk => hno hk (by decide)) (fun k hk => hno hk (by decide)) (fun k _ n p => n (ownP k p)) (fun k n => .inl n)).next T5 (fun _ _ f => f) (fun _ _ f => f) (fun _ _ _ f => f) (fun k q => .inl (ownQ k q))
          have hF2 : HitsAt w5 Q (evenO Os) := (((even_hits hFN).next EO (fun _ _ f => f.elim) (fun k n => .inl n)).next D1.turn (fun k _ p => ownP k p) (fun k n => .inl n)).next T5 (fun _ _ f => f.elim) (fun k q => .inl (ownQ k q))
          have mg2 := even_merged hOf
          have D2 := DAt.does (stamp := (i : Int) + 1) (k := ck) (i := ci) (n := cn) (s := cs) (g := cg) (v := .slice (some ⟨ob, 0, none⟩) Os.length Os.length) (Os := evenO Os) de5 HS0.out (wf_of cwf.1 (by omega)) (fun l' lo e => by
            obtain ⟨h1, h2⟩ := B.iT.two2 ci l' lo e
            omega) (fun _ => ⟨hO2, hF2, even_ok hOf⟩) (by unfold maxLen; omega)
          rw [hR2] at D2
          unfold cmdL at D2
          have D2 := Lib.hid D2
          have bXk := bX.turn EO id
          have RX5 := Lib.hid (range_turn (range_turn RX.out D1.turn (hno bXk (by decide))) T5 id)
          have sz4 := D1.turn.size
          have szE := EO.size
          have K5 := Lib.hid (show DAt w5 d md b1 (quOf x) (ouOf y) ((i + 1) * 30) R1.m R1.S P2 ∧ DAt w5 e me b2 (quOf x) (ouOf y) (i * 30) m T Q ∧ (∀ k, P2 k → ¬ Q k) ∧ (∀ k, P2 k → w.heap.size ≤ k) ∧ MRow w5 wk.heap.size (fun q => ¬ P2 q) (.slice aa R1.ms.length ac) R1.ms ∧ w5.rangeAt ba 0 [.int .i64 R1.err, .int .i64 R1.num, .slice aa R1.ms.length ac] ∧ Blk w5 ba 53 ∧ Blk w5 xb 43 ∧ Turn (fun _ => False) w w5 from
            ⟨(D1.desk.more (by have := hOf.merged; omega)).turn T5 (fun _ _ f => f), de5, fun k p q => (D1.own k p).elim (fun p => B.sep k p q) (fun h => by have := ownQ k q; have := TRE.size; omega), fun k p => (D1.own k p).elim (B.op k) (fun h => Nat.le_trans B.turn.size (Nat.le_trans TRE.size h)), D1.ans.turn T5 (fun _ _ f => f.elim) (fun _ _ f => f), RA, BA, (bXk.turn D1.turn (hno bXk (by decide))).turn T5 id, ((B.turn.trans TRE).comp D1.turn (fun k hk p => by have := B.op k p; omega)).trans T5⟩)
          clear T5 RA BA T2X bX rX hOf hON hFN hob hi hg B hlt cwf EO hEo iv1 iv2 rel ms1 ms2 hR2 TRE hdE hno ownP ownQ de5 hO2 hF2 mg2 bXk sz4 szE D1 RX
          go_wp2_with (((with_reducible show wpList _ _ _ ({ dst := some 149, op := Op.load 43 _, type := _, pos := _, after := _, guard := _ } :: _) _ _); refine wpList_load_mid rfl 43 _ rfl xb 0 rfl _ _ RX5.out Try.underlying43 rfl size43 ?_))
          with_reducible refine D2.out.mono ?_
          clear D2
          rintro en w6 ⟨av2, gv2, rfl, Q2, D2⟩
          obtain ⟨ab2, ac2, rfl⟩ := D2.ans.sl
          obtain ⟨lb4, ld4, rfl, -⟩ := own_slice D2.gone
          go_upto_region 24 with fail
          obtain ⟨w7, hw7⟩ : ∃ W, W = w6.alloc (.cells #[.int .i64 R2.err, .int .i64 R2.num, .slice ab2 R2.ms.length ac2] 53) := ⟨_, rfl⟩
          rw [← hw7]
          have T7 : Turn (fun _ => False) w6 w7 := by rw [hw7]; exact (Turn.refl _ w6).alloc _
          have RB : w7.rangeAt w6.heap.size 0 [.int .i64 R2.err, .int .i64 R2.num, .slice ab2 R2.ms.length ac2] := by rw [hw7]; exact range_new w6 [.int .i64 R2.err, .int .i64 R2.num, .slice ab2 R2.ms.length ac2] 53
          clear hw7
          generalize w6.heap.size = bb at *
          obtain ⟨dd5, de5, sep5, own5, mr5, ra5, ba5, bx5, t5⟩ := K5.out
          obtain ⟨iv1, iv2, rel, ms1, ms2, hR2⟩ := H2.out
          have nA := de5.no ba5 (by decide)
          have nX := de5.no bx5 (by decide)
          have ra7 := range_turn (range_turn ra5 D2.turn nA) T7 id
          have a0 : w7.cell? ⟨ba, 0, none⟩ = some (.int .i64 R1.err) := ra7 0 _ rfl
          have a1 : w7.cell? ⟨ba, 1, none⟩ = some (.int .i64 R1.num) := ra7 1 _ rfl
          have a2 : w7.cell? ⟨ba, 2, none⟩ = some (.slice aa R1.ms.length ac) := ra7 2 _ rfl
          have c0 : w7.cell? ⟨bb, 0, none⟩ = some (.int .i64 R2.err) := RB 0 _ rfl
          have c1 : w7.cell? ⟨bb, 1, none⟩ = some (.int .i64 R2.num) := RB 1 _ rfl
          have c2 : w7.cell? ⟨bb, 2, none⟩ = some (.slice ab2 R2.ms.length ac2) := RB 2 _ rfl
          have SM := Lib.hid (same_ans (e1 := R1.err) (n1 := R1.num) (e2 := R2.err) (n2 := R2.num) ((D2.mrow mr5 de5).turn T7 (fun _ _ f => f.elim) (fun _ _ f => f)) (D2.ans.turn T7 (fun _ _ f => f.elim) (fun _ _ f => f)) ms1.1 ms2.1 ms1.2 ms2.2)
          have rx7 := range_turn (range_turn RX5.out D2.turn nX) T7 id
          have hci : 0 ≤ ci := G0.out.2.2.2.2.1
          have KX := Lib.hid (show ∀ W, Turn (fun _ => False) w7 W → W.cell? ⟨xb, 0, none⟩ = some (.int .i64 ck) ∧ W.cell? ⟨xb, 1, none⟩ = some (.int .i64 ci) from fun W TW => ⟨TW.cell id (rx7 0 _ rfl), TW.cell id (rx7 1 _ rfl)⟩)
          have KZ := Lib.hid (show ∀ W, Turn (fun _ => False) w7 W → ASt w x y d e b1 b2 (i + 1) md me R1.m R1.S R2.S P2 Q2 W from fun W TW => by
            have B := G0.out.2.2.1
            have hOf := H1.out.2.2.2.1
            have T67 := T7.trans TW
            refine ⟨(dd5.turn D2.turn (fun k p q => sep5 k p q)).turn T67 (fun _ _ f => f), ?_, fun k p q => ?_, own5, fun k q => ?_, iv1.1, iv2.1, iv1.2, rel.1, (t5.comp D2.turn (fun k hk q => by have := B.oq k q; omega)).trans T67⟩
            · have h := (D2.desk.more (cnt' := (i + 1) * 30) (by have := even_merged hOf; omega)).turn T67 (fun _ _ f => f)
              rw [← rel.2.1] at h
              exact h
            · rcases D2.own k q with q | q
              · exact sep5 k p q
              · have := dd5.lt p; omega
            · exact (D2.own k q).elim (B.oq k) (fun h => Nat.le_trans t5.size h))
          have KR := Lib.hid (show ck ≠ 4 ∨ ci % 2 = 0 → R1.err = R2.err ∧ R1.num = R2.num ∧ R1.ms = R2.ms from rel.2.2)
          have KE := Lib.hid (show ∀ i, i % 2 = 0 → R1.S i = R2.S i from rel.1.2)
          have G1 := Lib.hid (And.intro G0.out.2.1 G0.out.2.2.2.1)
          clear T7 RB dd5 de5 sep5 own5 mr5 ra5 ba5 bx5 t5 iv1 iv2 rel ms1 ms2 hR2 nA nX ra7 rx7 D2 K5 H2 H1 G0 KA HS0 RX5 HOS
          generalize R1.ms.length = nm1 at *
          generalize R2.ms.length = nm2 at *
          go_wp2_with fail
          with_reducible refine SM.out.mono ?_
          rintro en w8 ⟨t, rfl, ht, T8⟩
          obtain ⟨k0, k1⟩ := KX.out w8 T8
          have K8 := Lib.hid (show ∀ W, Turn (fun _ => False) w8 W → ASt w x y d e b1 b2 (i + 1) md me R1.m R1.S R2.S P2 Q2 W from fun W TW => KZ.out W (T8.trans TW))
          clear KX KZ SM a0 a1 a2 c0 c1 c2 T8
          have ei : wrap64 ((i : Int) + 1) = (i : Int) + 1 := wrap_is (by have := G1.out.2; omega)
          have R5 : IdRel w8 6 (.int .i64 0) w8 := ⟨0, rfl, Nat.zero_le _, rfl, Turn.refl _ _⟩
          by_cases hq : ck ≠ 4 ∨ ci % 2 = 0
          · obtain rfl : t = true := ht (KR.out hq)
            clear ht hq KR
            go_wp2_with fail
            clear k0 k1
            go_loopg [20] 6 (fun gh v20 wv => IdRel w8 gh v20 wv)
            case atStart => exact R5
            case round =>
              clear R5
              obtain ⟨k, rfl, hk, hgk, TV⟩ := hrel
              rename World => wv
              by_cases hk6 : k < 6
              · have kn : (0 : Int) ≤ 2 * (k : Int) := by omega
                have t1 : decide (2 * (k : Int) < 12) = true := decide_eq_true (by omega)
                have e2 : wrap64 (2 * (k : Int) + 2) = 2 * ((k + 1 : Nat) : Int) := wrap_two (by omega)
                have wfk : (Lit.int .i64 (2 * (k : Int))).wf = true := wf_of kn (by omega)
                have A8 := K8.out wv TV
                have hee := KE.out (2 * (k : Int)) (by omega)
                have hll : lenS R2.S (2 * (k : Int)) = lenS R1.S (2 * (k : Int)) := by unfold lenS; rw [hee]
                have hlo : lostS R2.S (2 * (k : Int)) = lostS R1.S (2 * (k : Int)) := by unfold lostS; rw [hee]
                have N1 := Lib.hid (A8.dd.waiting wfk)
                have N2 := A8.de.waiting wfk
                rw [hll] at N2
                have N2 := Lib.hid N2
                have N3 := Lib.hid (A8.dd.lost wfk)
                have N4 := A8.de.lost wfk
                rw [hlo] at N4
                have N4 := Lib.hid N4
                have STEP := Lib.hid (show ∀ W, Turn (fun _ => False) wv W → IdRel w8 (6 - (k + 1)) (.int .i64 (2 * ((k + 1 : Nat) : Int))) W from fun W t => ⟨k + 1, rfl, hk6, rfl, TV.trans t⟩)
                have G5 := Lib.hid (And.intro hgk hk6)
                clear hk hgk TV hk6 A8 hee hll hlo
                generalize lenS R1.S (2 * (k : Int)) = ln at *
                generalize lostS R1.S (2 * (k : Int)) = lb at *
                have tn : ((ln : Int) != (ln : Int)) = false := by simp
                have tb : (lb != lb) = false := by cases lb <;> rfl
                go_wp2_with fail
                with_reducible refine N1.out.mono ?_
                rintro en W1 ⟨rfl, rfl⟩
                go_wp2_with fail
                with_reducible refine N2.out.mono ?_
                rintro en W1 ⟨rfl, rfl⟩
                go_wp2_with fail
                with_reducible refine N3.out.mono ?_
                rintro en W1 ⟨rfl, rfl⟩
                go_wp2_with fail
                with_reducible refine N4.out.mono ?_
                rintro en W1 ⟨rfl, rfl⟩
                go_wp2_with fail
                go_roundg (6 - (k + 1))
                case measure => have := G5.out.1; have := G5.out.2; omega
                case rel => first | exact STEP.out _ (Turn.refl _ _) | (rw [e2]; exact STEP.out _ (Turn.refl _ _))
              · have t1 : decide (2 * (k : Int) < 12) = false := decide_eq_false (by omega)
                have FIN := Lib.hid (show AqRel w x y d e b1 b2 L (min L.length 40 - (i + 1)) (.int .i64 ((i : Int) + 1)) wv from ⟨i + 1, md, me, R1.m, R1.S, R2.S, P2, Q2, congrArg (Value.int .i64) (Int.natCast_succ i).symm, G1.out.2, rfl, K8.out wv TV⟩)
                clear hk hgk TV hk6 K8 KE
                go_wp2_with fail
                go_roundg (min L.length 40 - (i + 1))
                case measure => have := G1.out.1; have := G1.out.2; omega
                case rel => first | exact FIN.out | (rw [ei]; exact FIN.out)
          · have hk4 : ck = 4 := Classical.byContradiction (fun h => hq (.inl h))
            have hc2 : ¬ ci % 2 = 0 := fun h => hq (.inr h)
            have tk : (ck != 4) = false := by rw [hk4]; rfl
            have ti : (ci % 2 == 0) = false := beq_eq_false_iff_ne.2 hc2
            have tm : (ci.tmod 2 == 0) = false := by rw [Int.tmod_eq_emod_of_nonneg hci]; exact ti
            clear ht hq KR hk4 hc2
            cases t with
            | false =>
              go_wp2_with fail
              clear k0 k1
              go_loopg [20] 6 (fun gh v20 wv => IdRel w8 gh v20 wv)
              case atStart => exact R5
              case round =>
                clear R5
                obtain ⟨k, rfl, hk, hgk, TV⟩ := hrel
                rename World => wv
                by_cases hk6 : k < 6
                · have kn : (0 : Int) ≤ 2 * (k : Int) := by omega
                  have t1 : decide (2 * (k : Int) < 12) = true := decide_eq_true (by omega)
                  have e2 : wrap64 (2 * (k : Int) + 2) = 2 * ((k + 1 : Nat) : Int) := wrap_two (by omega)
                  have wfk : (Lit.int .i64 (2 * (k : Int))).wf = true := wf_of kn (by omega)
                  have A8 := K8.out wv TV
                  have hee := KE.out (2 * (k : Int)) (by omega)
                  have hll : lenS R2.S (2 * (k : Int)) = lenS R1.S (2 * (k : Int)) := by unfold lenS; rw [hee]
                  have hlo : lostS R2.S (2 * (k : Int)) = lostS R1.S (2 * (k : Int)) := by unfold lostS; rw [hee]
                  have N1 := Lib.hid (A8.dd.waiting wfk)
                  have N2 := A8.de.waiting wfk
                  rw [hll] at N2
                  have N2 := Lib.hid N2
                  have N3 := Lib.hid (A8.dd.lost wfk)
                  have N4 := A8.de.lost wfk
                  rw [hlo] at N4
                  have N4 := Lib.hid N4
                  have STEP := Lib.hid (show ∀ W, Turn (fun _ => False) wv W → IdRel w8 (6 - (k + 1)) (.int .i64 (2 * ((k + 1 : Nat) : Int))) W from fun W t => ⟨k + 1, rfl, hk6, rfl, TV.trans t⟩)
                  have G5 := Lib.hid (And.intro hgk hk6)
                  clear hk hgk TV hk6 A8 hee hll hlo
                  generalize lenS R1.S (2 * (k : Int)) = ln at *
                  generalize lostS R1.S (2 * (k : Int)) = lb at *
                  have tn : ((ln : Int) != (ln : Int)) = false := by simp
                  have tb : (lb != lb) = false := by cases lb <;> rfl
                  go_wp2_with fail
                  with_reducible refine N1.out.mono ?_
                  rintro en W1 ⟨rfl, rfl⟩
                  go_wp2_with fail
                  with_reducible refine N2.out.mono ?_
                  rintro en W1 ⟨rfl, rfl⟩
                  go_wp2_with fail
                  with_reducible refine N3.out.mono ?_
                  rintro en W1 ⟨rfl, rfl⟩
                  go_wp2_with fail
                  with_reducible refine N4.out.mono ?_
                  rintro en W1 ⟨rfl, rfl⟩
                  go_wp2_with fail
                  go_roundg (6 - (k + 1))
                  case measure => have := G5.out.1; have := G5.out.2; omega
                  case rel => first | exact STEP.out _ (Turn.refl _ _) | (rw [e2]; exact STEP.out _ (Turn.refl _ _))
                · have t1 : decide (2 * (k : Int) < 12) = false := decide_eq_false (by omega)
                  have FIN := Lib.hid (show AqRel w x y d e b1 b2 L (min L.length 40 - (i + 1)) (.int .i64 ((i : Int) + 1)) wv from ⟨i + 1, md, me, R1.m, R1.S, R2.S, P2, Q2, congrArg (Value.int .i64) (Int.natCast_succ i).symm, G1.out.2, rfl, K8.out wv TV⟩)
                  clear hk hgk TV hk6 K8 KE
                  go_wp2_with fail
                  go_roundg (min L.length 40 - (i + 1))
                  case measure => have := G1.out.1; have := G1.out.2; omega
                  case rel => first | exact FIN.out | (rw [ei]; exact FIN.out)
            | true =>
              go_wp2_with fail
              clear k0 k1
              go_loopg [20] 6 (fun gh v20 wv => IdRel w8 gh v20 wv)
              case atStart => exact R5
              case round =>
                clear R5
                obtain ⟨k, rfl, hk, hgk, TV⟩ := hrel
                rename World => wv
                by_cases hk6 : k < 6
                · have kn : (0 : Int) ≤ 2 * (k : Int) := by omega
                  have t1 : decide (2 * (k : Int) < 12) = true := decide_eq_true (by omega)
                  have e2 : wrap64 (2 * (k : Int) + 2) = 2 * ((k + 1 : Nat) : Int) := wrap_two (by omega)
                  have wfk : (Lit.int .i64 (2 * (k : Int))).wf = true := wf_of kn (by omega)
                  have A8 := K8.out wv TV
                  have hee := KE.out (2 * (k : Int)) (by omega)
                  have hll : lenS R2.S (2 * (k : Int)) = lenS R1.S (2 * (k : Int)) := by unfold lenS; rw [hee]
                  have hlo : lostS R2.S (2 * (k : Int)) = lostS R1.S (2 * (k : Int)) := by unfold lostS; rw [hee]
                  have N1 := Lib.hid (A8.dd.waiting wfk)
                  have N2 := A8.de.waiting wfk
                  rw [hll] at N2
                  have N2 := Lib.hid N2
                  have N3 := Lib.hid (A8.dd.lost wfk)
                  have N4 := A8.de.lost wfk
                  rw [hlo] at N4
                  have N4 := Lib.hid N4
                  have STEP := Lib.hid (show ∀ W, Turn (fun _ => False) wv W → IdRel w8 (6 - (k + 1)) (.int .i64 (2 * ((k + 1 : Nat) : Int))) W from fun W t => ⟨k + 1, rfl, hk6, rfl, TV.trans t⟩)
                  have G5 := Lib.hid (And.intro hgk hk6)
                  clear hk hgk TV hk6 A8 hee hll hlo
                  generalize lenS R1.S (2 * (k : Int)) = ln at *
                  generalize lostS R1.S (2 * (k : Int)) = lb at *
                  have tn : ((ln : Int) != (ln : Int)) = false := by simp
                  have tb : (lb != lb) = false := by cases lb <;> rfl
                  go_wp2_with fail
                  with_reducible refine N1.out.mono ?_
                  rintro en W1 ⟨rfl, rfl⟩
                  go_wp2_with fail
                  with_reducible refine N2.out.mono ?_
                  rintro en W1 ⟨rfl, rfl⟩
                  go_wp2_with fail
                  with_reducible refine N3.out.mono ?_
                  rintro en W1 ⟨rfl, rfl⟩
                  go_wp2_with fail
                  with_reducible refine N4.out.mono ?_
                  rintro en W1 ⟨rfl, rfl⟩
                  go_wp2_with fail
                  go_roundg (6 - (k + 1))
                  case measure => have := G5.out.1; have := G5.out.2; omega
                  case rel => first | exact STEP.out _ (Turn.refl _ _) | (rw [e2]; exact STEP.out _ (Turn.refl _ _))
                · have t1 : decide (2 * (k : Int) < 12) = false := decide_eq_false (by omega)
                  have FIN := Lib.hid (show AqRel w x y d e b1 b2 L (min L.length 40 - (i + 1)) (.int .i64 ((i : Int) + 1)) wv from ⟨i + 1, md, me, R1.m, R1.S, R2.S, P2, Q2, congrArg (Value.int .i64) (Int.natCast_succ i).symm, G1.out.2, rfl, K8.out wv TV⟩)
                  clear hk hgk TV hk6 K8 KE
                  go_wp2_with fail
                  go_roundg (min L.length 40 - (i + 1))
                  case measure => have := G1.out.1; have := G1.out.2; omega
                  case rel => first | exact FIN.out | (rw [ei]; exact FIN.out)
    · have FIN := Lib.hid (show Below w.heap.size w wr from B.turn.below (fun k hk => ⟨hk, id⟩))
      have LD := Lib.hid B.dd.live
      have LE := Lib.hid B.de.live
      by_cases h4 : i < L.length
      · have u1 : decide ((i : Int) < (L.length : Int)) = true := decide_eq_true (Int.ofNat_lt.2 h4)
        have u2 : decide (i < L.length) = true := decide_eq_true h4
        have u3 : decide ((i : Int) < 40) = false := decide_eq_false (by omega)
        clear hi hg hlt B HA h4
        go_wp2_with fail
        with_reducible refine LD.out.mono ?_
        rintro en W1 ⟨rfl, rfl⟩
        go_wp2_with fail
        with_reducible refine LE.out.mono ?_
        rintro en W1 ⟨rfl, rfl⟩
        go_wp2
        go_ret
        exact ⟨rfl, FIN.out⟩
      · have u1 : decide ((i : Int) < (L.length : Int)) = false := decide_eq_false (fun h => h4 (Int.ofNat_lt.1 h))
        have u2 : decide (i < L.length) = false := decide_eq_false h4
        clear hi hg hlt B HA h4
        go_wp2_with fail
        with_reducible refine LD.out.mono ?_
        rintro en W1 ⟨rfl, rfl⟩
        go_wp2_with fail
        with_reducible refine LE.out.mono ?_
        rintro en W1 ⟨rfl, rfl⟩
        go_wp2
        go_ret
        exact ⟨rfl, FIN.out⟩
end Go.Proofs.Ytepmealhnnoahaa
