/-
  The document's own answer for rules: what sibylref05.Eval, Holds and All tell.
-/
import Derived.Test.YtfidnahbhomomaaRe
namespace Go.Proofs.Ytfidnahbhomomaa
open Go.ChangeShapes Go.WideShapes Go.ChangeAt Go.RowKit
set_option linter.unusedVariables false
set_option linter.unusedSimpArgs false
theorem less_is (a b : Int) : wrap64 (a + wrap64 (-b)) = wrap64 (a - b) := by
  unfold wrap64
  omega

theorem ref_add (a b : Int) (w : World) : Calls Try.prog 72 #[.int .i64 1, .int .i64 a, .int .i64 b] w fun e w' => e = .returned (.agg #[.int .i64 (wrap64 (a + b)), .bool true]) ∧ Turn (fun _ => False) w w' := by
  go_enter Try.func72, Try.ntmps72
  go_wp2
  exact bodyPost_ret (v := .agg #[.int .i64 (wrap64 (a + b)), .bool true]) (by simp [results, Try.results72, go_sem]) rfl ⟨rfl, (Turn.refl _ w).alloc _⟩

theorem ref_sub (a b : Int) (w : World) : Calls Try.prog 72 #[.int .i64 2, .int .i64 a, .int .i64 b] w fun e w' => e = .returned (.agg #[.int .i64 (wrap64 (a - b)), .bool true]) ∧ Turn (fun _ => False) w w' := by
  go_enter Try.func72, Try.ntmps72
  go_wp2
  exact bodyPost_ret (v := .agg #[.int .i64 (wrap64 (a - b)), .bool true]) (by simp [results, Try.results72, go_sem]) rfl ⟨rfl, (Turn.refl _ w).alloc _⟩

theorem ref_mul (a b : Int) (w : World) : Calls Try.prog 72 #[.int .i64 3, .int .i64 a, .int .i64 b] w fun e w' => e = .returned (.agg #[.int .i64 (wrap64 (a * b)), .bool true]) ∧ Turn (fun _ => False) w w' := by
  go_enter Try.func72, Try.ntmps72
  go_wp2
  exact bodyPost_ret (v := .agg #[.int .i64 (wrap64 (a * b)), .bool true]) (by simp [results, Try.results72, go_sem]) rfl ⟨rfl, (Turn.refl _ w).alloc _⟩

theorem ref_zero (op a : Int) (w : World) (h1 : ¬ op = 1) (h2 : ¬ op = 2) (h3 : ¬ op = 3) : Calls Try.prog 72 #[.int .i64 op, .int .i64 a, .int .i64 0] w fun e w' => e = .returned (.agg #[.int .i64 0, .bool false]) ∧ Turn (fun _ => False) w w' := by
  have k1 : (op == 1) = false := by simpa using h1
  have k2 : (op == 2) = false := by simpa using h2
  have k3 : (op == 3) = false := by simpa using h3
  clear h1 h2 h3
  go_enter Try.func72, Try.ntmps72
  go_wp2
  exact bodyPost_ret (v := .agg #[.int .i64 0, .bool false]) (by simp [results, Try.results72, go_sem]) rfl ⟨rfl, (Turn.refl _ w).alloc _⟩

theorem ref_none (op a b : Int) (w : World) (h0 : ¬ b = 0) (h1 : ¬ op = 1) (h2 : ¬ op = 2) (h3 : ¬ op = 3) (h4 : ¬ op = 4) (h5 : ¬ op = 5) : Calls Try.prog 72 #[.int .i64 op, .int .i64 a, .int .i64 b] w fun e w' => e = .returned (.agg #[.int .i64 0, .bool false]) ∧ Turn (fun _ => False) w w' := by
  have k0 : (b == 0) = false := by simpa using h0
  have k1 : (op == 1) = false := by simpa using h1
  have k2 : (op == 2) = false := by simpa using h2
  have k3 : (op == 3) = false := by simpa using h3
  have k4 : (op == 4) = false := by simpa using h4
  have k5 : (op == 5) = false := by simpa using h5
  have l4 : (op != 4) = true := by simpa using h4
  have l5 : (op != 5) = true := by simpa using h5
  clear h0 h1 h2 h3 h4 h5
  go_enter Try.func72, Try.ntmps72
  go_wp2
  exact bodyPost_ret (v := .agg #[.int .i64 0, .bool false]) (by simp [results, Try.results72, go_sem]) rfl ⟨rfl, (Turn.refl _ w).alloc _⟩

theorem ref_div (a b : Int) (w : World) (h0 : ¬ b = 0) (h1 : ¬ b = -1) : Calls Try.prog 72 #[.int .i64 4, .int .i64 a, .int .i64 b] w fun e w' => e = .returned (.agg #[.int .i64 (wrap64 (a.tdiv b)), .bool true]) ∧ Turn (fun _ => False) w w' := by
  have k0 : (b == 0) = false := by simpa using h0
  have k1 : (b == -1) = false := by simpa using h1
  clear h1
  go_enter Try.func72, Try.ntmps72
  go_wp2
  exact bodyPost_ret (v := .agg #[.int .i64 (wrap64 (a.tdiv b)), .bool true]) (by simp [results, Try.results72, go_sem]) rfl ⟨rfl, (Turn.refl _ w).alloc _⟩

theorem ref_rem (a b : Int) (w : World) (h0 : ¬ b = 0) (h1 : ¬ b = -1) : Calls Try.prog 72 #[.int .i64 5, .int .i64 a, .int .i64 b] w fun e w' => e = .returned (.agg #[.int .i64 (a.tmod b), .bool true]) ∧ Turn (fun _ => False) w w' := by
  have k0 : (b == 0) = false := by simpa using h0
  have k1 : (b == -1) = false := by simpa using h1
  clear h1
  go_enter Try.func72, Try.ntmps72
  go_wp2
  exact bodyPost_ret (v := .agg #[.int .i64 (a.tmod b), .bool true]) (by simp [results, Try.results72, go_sem]) rfl ⟨rfl, (Turn.refl _ w).alloc _⟩

theorem ref_div1 (a : Int) (w : World) : Calls Try.prog 72 #[.int .i64 4, .int .i64 a, .int .i64 (-1)] w fun e w' => e = .returned (.agg #[.int .i64 (wrap64 (-a)), .bool true]) ∧ Turn (fun _ => False) w w' := by
  go_enter Try.func72, Try.ntmps72
  go_wp2
  exact bodyPost_ret (v := .agg #[.int .i64 (wrap64 (-a)), .bool true]) (by simp [results, Try.results72, go_sem]) rfl ⟨rfl, (Turn.refl _ w).alloc _⟩

theorem ref_rem1 (a : Int) (w : World) : Calls Try.prog 72 #[.int .i64 5, .int .i64 a, .int .i64 (-1)] w fun e w' => e = .returned (.agg #[.int .i64 0, .bool true]) ∧ Turn (fun _ => False) w w' := by
  go_enter Try.func72, Try.ntmps72
  go_wp2
  exact bodyPost_ret (v := .agg #[.int .i64 0, .bool true]) (by simp [results, Try.results72, go_sem]) rfl ⟨rfl, (Turn.refl _ w).alloc _⟩

theorem info2n : (Try.prog.info? 2).map (fun i => (i.zero, i.size, i.bytes)) = some (some (.int .i64 0), 1, 8) := by kernel_rfl
/-- What the document's numbers answer. -/
theorem rdo_any (op a b : Int) (w : World) : Calls Try.prog 72 #[.int .i64 op, .int .i64 a, .int .i64 b] w fun e w' => e = .returned (.agg #[.int .i64 ((doOp op a b).getD 0), .bool (doOp op a b).isSome]) ∧ Turn (fun _ => False) w w' := by
  by_cases h1 : op = 1
  · subst h1; exact ref_add a b w
  by_cases h2 : op = 2
  · subst h2
    have e : doOp 2 a b = some (wrap64 (a - b)) := by simp [doOp, less_is]
    rw [e]; exact ref_sub a b w
  by_cases h3 : op = 3
  · subst h3; exact ref_mul a b w
  by_cases hb : b = 0
  · subst hb
    have e : doOp op a 0 = none := by simp [doOp, h1, h2, h3]
    rw [e]; exact ref_zero op a w h1 h2 h3
  by_cases h4 : op = 4
  · subst h4
    have e : doOp 4 a b = some (wrap64 (a.tdiv b)) := by simp [doOp, hb]
    rw [e]
    by_cases hm : b = -1
    · subst hm
      rw [show a.tdiv (-1) = -a from by rw [Int.tdiv_neg, Int.tdiv_one]]
      exact ref_div1 a w
    exact ref_div a b w hb hm
  by_cases h5 : op = 5
  · subst h5
    have e : doOp 5 a b = some (a.tmod b) := by simp [doOp, hb]
    rw [e]
    by_cases hm : b = -1
    · subst hm
      rw [show a.tmod (-1) = 0 from by rw [Int.tmod_neg, Int.tmod_one]]
      exact ref_rem1 a w
    exact ref_rem a b w hb hm
  have e : doOp op a b = none := by simp [doOp, h1, h2, h3, h4, h5]
  rw [e]; exact ref_none op a b w hb h1 h2 h3 h4 h5
theorem rset_out (a : Option Addr) (m cap : Nat) (p : Int) (w : World) (hp : p < 0 ∨ (m : Int) ≤ p) : Calls Try.prog 71 #[.slice a m cap, .int .i64 p] w fun e w' => e = .returned (.slice none 0 0) ∧ w = w' := by
  by_cases h0 : p < 0
  · have h1 : decide (p < 0) = true := by simpa using h0
    clear hp
    go_enter Try.func71, Try.ntmps71
    go_wp2
    go_ret
    exact ⟨rfl, rfl⟩
  · have h1 : decide (p < 0) = false := by simpa using h0
    have h2 : decide ((m : Int) ≤ p) = true := by simp; omega
    clear hp h0
    go_enter Try.func71, Try.ntmps71
    go_wp2
    go_ret
    exact ⟨rfl, rfl⟩
theorem rset_in (g off m cap k : Nat) (u : Value) (w : World) (hk : k < m) (hc : w.cell? ⟨g, off + k, none⟩ = some u) : Calls Try.prog 71 #[.slice (some ⟨g, off, none⟩) m cap, .int .i64 (k : Int)] w fun e w' => e = .returned u ∧ w = w' := by
  have h1 : decide (((k : Nat) : Int) < 0) = false := by simp
  have h2 : decide (((m : Nat) : Int) ≤ ((k : Nat) : Int)) = false := by simp; omega
  have h3 : decide (m ≤ k) = false := by simp; omega
  have h4 : (0 : Int) ≤ (k : Int) := Int.natCast_nonneg k
  have h5 : (k : Int) < (m : Int) := Int.ofNat_lt.2 hk
  go_enter Try.func71, Try.ntmps71
  go_wp2
  go_ret
  exact ⟨rfl, rfl⟩
/-- The set of a place. -/
theorem rset_is {w : World} {sa : Option Addr} {scap : Nat} {X : List (List Ev)} (hX : ESetsAt w (.slice sa X.length scap) X) (p : Int) :
    ∃ ea c, EvsAt w (.slice ea (setE X p).length c) (setE X p) ∧ Calls Try.prog 71 #[.slice sa X.length scap, .int .i64 p] w fun e w' => e = .returned (.slice ea (setE X p).length c) ∧ w = w' := by
  obtain ⟨a', b, off, cap', e, ha, hx⟩ := hX
  have hc : scap = cap' := by injection e
  have ha2 : sa = a' := by injection e
  subst hc ha2
  clear e
  by_cases hp : p < 0 ∨ (X.length : Int) ≤ p
  · have he : setE X p = [] := by
      unfold setE
      by_cases h0 : p < 0
      · rw [if_pos h0]
      · rw [if_neg h0, List.getD_eq_getElem?_getD, List.getElem?_eq_none (by omega)]
        rfl
    rw [he]
    exact ⟨none, 0, ⟨none, 0, 0, 0, rfl, Nat.le_refl _, .inl rfl, fun k e h => by simp at h⟩, rset_out sa X.length scap p w hp⟩
  · obtain ⟨k, rfl⟩ : ∃ k : Nat, p = (k : Int) := ⟨p.toNat, by omega⟩
    have hk : k < X.length := by omega
    obtain ⟨l, hl⟩ : ∃ l, X[k]? = some l := ⟨_, List.getElem?_eq_getElem hk⟩
    obtain ⟨rfl, -⟩ := ha.resolve_left (fun e => by rw [e] at hk; exact absurd hk (Nat.not_lt_zero k))
    obtain ⟨r, h1, h2⟩ := hx k l hl
    obtain ⟨ra, rc, rfl⟩ := h2.sl
    have he : setE X (k : Int) = l := by
      unfold setE
      rw [if_neg (by omega), Int.toNat_natCast, List.getD_eq_getElem?_getD, hl]
      rfl
    rw [he]
    exact ⟨ra, rc, h2, rset_in b off X.length scap k _ w hk h1⟩
/-- One number put behind a row of one's own. -/
theorem app_num {W : World} {base n : Nat} {v : Value} {xs : List Value} (h : W.ownsRow base 2 1 v n xs) (hb : base ≤ W.heap.size) (hn : n ≤ 100000) (x : Int) :
    ∃ v' W', (Builtin.append_ #[120, 120] 120 #[v, .slice (some ⟨W.heap.size, 0, none⟩) 1 1]).run Try.prog (W.alloc (.cells #[.int .i64 x] 2)) = .ok v' W' ∧ W'.ownsRow base 2 1 v' (n + 1) (xs ++ [.int .i64 x]) ∧ Turn (fun q => v.ownBlock = some q) W W' := by
  have T1 : Turn (fun _ => False) W (W.alloc (.cells #[.int .i64 x] 2)) := (Turn.refl _ W).alloc _
  obtain ⟨i3, j1, j2, j3, j4⟩ := info_parts info2n
  obtain ⟨v', W', hrn, ho2, hgr, _⟩ := run_append_own (W.alloc (.cells #[.int .i64 x] 2)) base 120 120 2 i3 _ 1 8 Try.underlying120 j1 j2 j3 j4 rfl (by decide) _ _ _ (own_turn h T1 (fun _ _ f => f)) ⟨W.heap.size, 0, none⟩ 1 1 [.int .i64 x] rfl
    (cells_new W [.int .i64 x] 2 _ rfl) (fun u hu => by simp at hu; subst hu; rfl) (by unfold maxLen; omega) (by omega) (Nat.le_trans hb T1.size)
  exact ⟨v', W', hrn, ho2, (T1.more (fun _ _ q => q.elim)).trans ((Turn.refl _ _).grown hgr (fun k hk => .inl hk))⟩
theorem size107 : (Try.prog.info? 107).map (·.size) = some 2 := by kernel_rfl
/-- A number that lies somewhere put behind a row of one's own. -/
theorem app_at {W : World} {base n p : Nat} {v : Value} {xs : List Value} {x : Int} (h : W.ownsRow base 2 1 v n xs) (hb : base ≤ W.heap.size) (hn : n ≤ 100000) (hp : W.cell? ⟨p, 0, none⟩ = some (.int .i64 x)) :
    ∃ v' W', (Builtin.append_ #[120, 120] 120 #[v, .slice (some ⟨p, 0, none⟩) 1 1]).run Try.prog W = .ok v' W' ∧ W'.ownsRow base 2 1 v' (n + 1) (xs ++ [.int .i64 x]) ∧ Turn (fun q => v.ownBlock = some q) W W' := by
  obtain ⟨i3, j1, j2, j3, j4⟩ := info_parts info2n
  obtain ⟨v', W', hrn, ho2, hgr, _⟩ := run_append_own W base 120 120 2 i3 _ 1 8 Try.underlying120 j1 j2 j3 j4 rfl (by decide) _ _ _ h ⟨p, 0, none⟩ 1 1 [.int .i64 x] rfl
    (fun j u hu => by
      have hj := (List.getElem?_eq_some_iff.1 hu).1
      obtain rfl : j = 0 := by simp at hj; omega
      simp at hu
      subst hu
      rw [Go.WideShapes.add_plain]
      exact hp) (fun u hu => by simp at hu; subst hu; rfl) (by unfold maxLen; omega) (by omega) hb
  exact ⟨v', W', hrn, ho2, (Turn.refl _ _).grown hgr (fun k hk => .inl hk)⟩
theorem append_none2 {w : World} {base n c : Nat} {v : Value} {xs : List Value} (hown : w.ownsRow base 2 1 v n xs) : (Builtin.append_ #[120, 120] 120 #[v, .slice none 0 c]).run Try.prog w = .ok v w := by
  obtain ⟨i, hi, _⟩ := info_parts info2n
  rcases hown.2 with ⟨rfl, rfl⟩ | ⟨g, cap, cur, rfl, _, _, hnc, _⟩
  · simp [Builtin.append_, run_underlying Try.underlying120, sizeOf, typeInfo, hi, Builtin.lenOf, Builtin.firstCells]
  · simp [Builtin.append_, run_underlying Try.underlying120, sizeOf, typeInfo, hi, Builtin.lenOf, Builtin.firstCells, hnc, storeCells]
/-- A row's numbers put behind a row of one's own. -/
theorem nums_app2 {W : World} {base n : Nat} {v r : Value} {xs : List Value} {l : List Int} (h : W.ownsRow base 2 1 v n xs) (hB : base ≤ W.heap.size) (hn : n + l.length ≤ 100000) (hr : RowAt W r l) :
    ∃ v' w', (Builtin.append_ #[120, 120] 120 #[v, r]).run Try.prog W = .ok v' w' ∧ w'.ownsRow base 2 1 v' (n + l.length) (xs ++ intsV l) ∧ Turn (fun k => v.ownBlock = some k) W w' := by
  obtain ⟨i3, j1, j2, j3, j4⟩ := info_parts info2n
  obtain ⟨a, b, off, cap, rfl, hc, ha, hx⟩ := hr
  cases a with
  | none =>
    obtain rfl := ha.resolve_right (fun e => by cases e)
    exact ⟨v, W, append_none2 h, by simpa [intsV] using h, Turn.refl _ _⟩
  | some p =>
    obtain ⟨v', w', hr, ho, hg, _⟩ := run_append_own W base 120 120 2 i3 _ 1 8 Try.underlying120 j1 j2 j3 j4 rfl (by decide) v n xs h p l.length cap (intsV l) (by unfold intsV; simp) (fun j u hu => by
      unfold intsV at hu
      rw [List.getElem?_map] at hu
      obtain ⟨x, hx1, rfl⟩ := Option.map_eq_some_iff.1 hu
      have hp : p = ⟨b, off, none⟩ := by
        rcases ha with e | e
        · rw [e] at hx1
          simp at hx1
        · injection e
      subst hp
      rw [Go.WideShapes.add_plain]
      exact hx j x hx1) (fun u hu => by unfold intsV at hu; simp at hu; obtain ⟨x, _, rfl⟩ := hu; rfl) (by unfold maxLen; omega) (by omega) (by omega)
    exact ⟨v', w', hr, ho, (Turn.refl _ W).grown hg (fun k hk => .inl hk)⟩
theorem own_base {w : World} {b b' : Nat} {t : TypeId} {s n : Nat} {v : Value} {xs : List Value} (h : w.ownsRow b t s v n xs) (hb : b' ≤ b) : w.ownsRow b' t s v n xs := by
  refine ⟨h.1, ?_⟩
  rcases h.2 with h0 | ⟨g, cap, cur, e, hg, rest⟩
  · exact .inl h0
  · exact .inr ⟨g, cap, cur, e, Nat.le_trans hb hg, rest⟩
theorem own_empty {W1 U : World} (T : Turn (fun _ => False) W1 U) : (U.alloc (.cells #[] 2)).ownsRow W1.heap.size 2 1 (.slice (some ⟨U.heap.size, 0, none⟩) 0 0) 0 [] :=
  ⟨rfl, .inr ⟨U.heap.size, 0, #[], rfl, T.size, World.alloc_heap_new U _, Nat.le_refl _, Nat.zero_le _, rfl, rfl⟩⟩
theorem cell_new (U : World) (x : Int) : (U.alloc (.cells #[.int .i64 x] 2)).cell? ⟨U.heap.size, 0, none⟩ = some (.int .i64 x) := range_new U [.int .i64 x] 2 0 _ rfl
theorem own_empty2 {W1 U : World} (T : Turn (fun _ => False) W1 U) {p : Nat} (hp : p = U.heap.size) : (U.alloc (.cells #[] 2)).ownsRow W1.heap.size 2 1 (.slice (some ⟨p, 0, none⟩) 0 0) 0 [] := by subst hp; exact own_empty T
theorem cell_new2 (U : World) (x : Int) {p : Nat} (hp : p = U.heap.size) : (U.alloc (.cells #[.int .i64 x] 2)).cell? ⟨p, 0, none⟩ = some (.int .i64 x) := by subst hp; exact cell_new U x
theorem neg_is2 (b : Int) : wrap64 (-b) = wrap64 (0 + wrap64 (-b)) := by
  unfold wrap64
  omega
theorem wrapI {m : Nat} (h : m ≤ 100000) : wrap64 (m : Int) = (m : Int) := by unfold wrap64; omega
theorem wrapJ {n m j : Nat} (e : n = m + j) (h : n ≤ 100000) : wrap64 ((n : Int) - (j : Int)) = (m : Int) ∧ IntKind.i64.wrap ((n : Int) - (j : Int)) = (m : Int) := by
  refine ⟨by unfold wrap64; omega, ?_⟩
  rw [IntWalk.i64_in _ (by omega)]
  omega
theorem ops_short {v : Env} {st : List Int} {op nn fld pl : Int} (h6 : ¬ op = 6) (h8 : ¬ op = 8) (h7 : ¬ op = 7) (h9 : ¬ op = 9) (h : st.length < 2) : stepCd v st ⟨op, nn, fld, pl⟩ = none := by
  by_cases ho : 1 ≤ op ∧ op ≤ 5
  · rw [step_op ho]
    match st, h with
    | [], _ => rfl
    | [_], _ => rfl
  · exact step_not h6 h8 h7 h9 ho
theorem ops_long {v : Env} {a y : Int} {r : List Int} {op nn fld pl : Int} (h6 : ¬ op = 6) (h8 : ¬ op = 8) (h7 : ¬ op = 7) (h9 : ¬ op = 9) : stepCd v (y :: a :: r) ⟨op, nn, fld, pl⟩ = (doOp op a y).map (· :: r) := by
  by_cases ho : 1 ≤ op ∧ op ≤ 5
  · rw [step_op ho]; rfl
  · rw [step_not h6 h8 h7 h9 ho]
    have e : doOp op a y = none := by
      unfold doOp
      rw [if_neg (by omega), if_neg (by omega), if_neg (by omega), if_neg (by omega), if_neg (by omega)]
    rw [e]; rfl
theorem neg_is (b : Int) : IntKind.i64.wrap (-b) = wrap64 (0 + wrap64 (-b)) := by
  rw [IntKind.wrap_i64]
  unfold wrap64
  omega
/-- All but the last of a row of one's own, read as it lies. -/
theorem row_of {w : World} {base n co g : Nat} {r : List Int} {x : List Value} (h : w.ownsRow base 2 1 (.slice (some ⟨g, 0, none⟩) n co) n (nums r ++ x)) : r.length ≤ co ∧ RowAt w (.slice (some ⟨g, 0, none⟩) r.length co) r.reverse := by
  have hl := h.1
  rw [List.length_append, nums_len] at hl
  rw [Nat.mul_one] at hl
  have hco : n ≤ co := by
    rcases h.2 with ⟨e, _⟩ | ⟨g', cap', cur, e, hg, hgg, hn, hm, hc, ht⟩
    · cases e
    · cases e
      exact hn
  refine ⟨by omega, _, g, 0, co, by rw [List.length_reverse], by rw [List.length_reverse]; omega, .inr rfl, fun j y hj => ?_⟩
  have hjl := (List.getElem?_eq_some_iff.1 hj).1
  rw [List.length_reverse] at hjl
  rw [Nat.zero_add]
  refine (h.cellAt j (by omega)).trans ?_
  rw [List.getElem?_append_left (by rw [nums_len]; exact hjl)]
  unfold nums
  rw [List.getElem?_map, hj]
  rfl
def RvRel (w : World) (rb : Nat) (v : Env) (l : List Cd) (gh : Nat) (v5 v6 : Value) (wr : World) : Prop :=
  ∃ (k : Nat) (st : List Int), v6 = .int .i64 (k : Int) ∧ k ≤ l.length ∧ gh = l.length - k ∧ evalSt v (l.take k) [] = some st ∧ wr.ownsRow (rb + 1) 2 1 v5 st.length (nums st) ∧ (wr.rangeAt rb 0 [.int .i64 0, .bool false] ∧ Blk wr rb 107) ∧ Turn (fun _ => False) w wr
/-- What a round leaves. -/
theorem rv_next {w wr W1 wa : World} {rb : Nat} {v : Env} {l : List Cd} {k : Nat} {c : Cd} {st st' : List Int} {v5 v' : Value} (hkl : k < l.length) (hc : l[k]? = some c) (hst : evalSt v (l.take k) [] = some st) (hs : stepCd v st c = some st') (ho : wr.ownsRow (rb + 1) 2 1 v5 st.length (nums st)) (hr : wr.rangeAt rb 0 [.int .i64 0, .bool false] ∧ Blk wr rb 107) (T : Turn (fun _ => False) w wr) (hrb : rb = w.heap.size)
    (T1 : Turn (fun _ => False) wr W1) (ho' : wa.ownsRow (rb + 1) 2 1 v' st'.length (nums st')) (T2 : Turn (fun q => v5.ownBlock = some q) W1 wa) : RvRel w rb v l (l.length - (k + 1)) v' (.int .i64 ((k : Int) + 1)) wa := by
  have hlo : ∀ q, v5.ownBlock = some q → rb + 1 ≤ q ∧ q < wr.heap.size := fun q hq => ho.lt q hq
  refine ⟨k + 1, st', congrArg (Value.int .i64) (Int.natCast_succ k).symm, hkl, rfl, (eval_next hc hst).trans hs, ho', ?_, ?_⟩
  · have T3 : Turn (fun q => v5.ownBlock = some q) wr wa := (T1.more (fun _ _ f => f.elim)).trans T2
    have hn : ¬ v5.ownBlock = some rb := fun e => by have := (hlo rb e).1; omega
    exact ⟨range_turn hr.1 T3 hn, hr.2.turn T3 hn⟩
  · have T3 : Turn (fun q => v5.ownBlock = some q) wr wa := (T1.more (fun _ _ f => f.elim)).trans T2
    exact ⟨T3.os.trans T.os, T3.tape.trans T.tape, T3.output.trans T.output, Nat.le_trans T.size T3.size, fun q hq _ => (T3.block q (Nat.lt_of_lt_of_le hq T.size) (fun e => by have := (hlo q e).1; omega)).trans (T.block q hq id)⟩
theorem rv_res {w : World} {rb : Nat} {W : World} (T : Turn (fun _ => False) w W) (hrb : rb = w.heap.size) (x : Int) (b : Bool) : Turn (fun _ => False) w (W.setCells rb 0 [.int .i64 x, .bool b]) := T.setCells _ _ (.inr (by rw [hrb]; exact Nat.le_refl _))
theorem wrapS {ns n' : Nat} (h : ns = n' + 1) (h2 : ns ≤ 100000) : wrap64 ((ns : Int) - 1) = (n' : Int) := by unfold wrap64; omega
theorem wrapS2 {ns n' : Nat} (h : ns = n' + 1) (h2 : ns ≤ 100000) : IntKind.i64.wrap ((ns : Int) - 1) = (n' : Int) := by
  rw [IntWalk.i64_in _ (by omega)]
  omega
theorem own_ne2 {w : World} {base n g : Nat} {t u : TypeId} {v : Value} {xs : List Value} (h : w.ownsRow base t 1 v n xs) (hb : Blk w g u) (hne : t ≠ u) (e : v.ownBlock = some g) : False := by
  rcases h.2 with ⟨e1, _⟩ | ⟨g', cap', cu, e1, _, hgg, _⟩
  · rw [e1] at e; simp [Value.ownBlock] at e
  · rw [e1] at e
    have : g' = g := by simpa [Value.ownBlock] using e
    subst this
    obtain ⟨cs, hcs⟩ := hb
    rw [hgg] at hcs
    injection hcs with z
    injection z with z1 z2 z3
    exact hne z2

set_option maxRecDepth 100000 in
set_option maxHeartbeats 16000000 in
theorem ref_eval {w : World} {lv sv : Value} {X : List (List Ev)} {l : List Cd} (hE : ESetsAt w sv X) (hX : XOk X) (hC : CodesAt w lv l) (hl : l.length ≤ 100) :
    Calls Try.prog 59 #[lv, sv] w fun e w' => e = .returned (.agg #[.int .i64 ((evalCd (envE X) l).getD 0), .bool (evalCd (envE X) l).isSome]) ∧ Turn (fun _ => False) w w' := by
  obtain ⟨la, lb, lo, lcap, rfl, hla, hx⟩ := hC
  obtain ⟨sa, scap, rfl⟩ := hE.sl
  obtain ⟨rb, hrb⟩ : ∃ rb, rb = w.heap.size := ⟨_, rfl⟩
  obtain ⟨W0, hW0⟩ : ∃ W0, W0 = w.alloc (.cells #[.int .i64 0, .bool false] 107) := ⟨_, rfl⟩
  have T0 : Turn (fun _ => False) w W0 := by rw [hW0]; exact (Turn.refl _ w).alloc _
  have R0 : RvRel w rb (envE X) l l.length (.slice none 0 0) (.int .i64 0) W0 := ⟨0, [], rfl, Nat.zero_le _, rfl, rfl, World.ownsRow_nil _ _ _ _, ⟨by rw [hW0, hrb]; exact range_new w [.int .i64 0, .bool false] 107, by rw [hW0, hrb]; exact Blk.new w [.int .i64 0, .bool false] 107⟩, T0⟩
  have HW0 := Lib.hid hW0
  have HRB := Lib.hid hrb
  have HE := Lib.hid hE
  have HC := Lib.hid (And.intro hla hx)
  clear hE hla hx hW0 T0 hrb
  go_enter Try.func59, Try.ntmps59
  go_upto_region 1 with fail
  rw [← HW0.out, ← HRB.out]
  clear HW0
  go_wp2_with fail
  go_loopg [5, 6, 7, 8, 9, 10] l.length (fun gh v5 v6 v7 v8 v9 v10 wr => RvRel w rb (envE X) l gh v5 v6 wr)
  case atStart => exact R0
  case round =>
    clear R0
    obtain ⟨k, st, rfl, hk, hg, hst, ho, hrr, TV⟩ := hrel
    obtain ⟨ao, co, rfl, hao⟩ := own_slice ho
    have sl := eval_len hst
    have sl2 : st.length ≤ 100 := by
      have := List.length_take_le k l
      simp at sl
      omega
    by_cases hkl : k < l.length
    · obtain ⟨⟨op, nn, fld, pl⟩, hc⟩ : ∃ c, l[k]? = some c := ⟨_, List.getElem?_eq_getElem hkl⟩
      obtain ⟨hla, hx⟩ := HC.out
      obtain rfl := hla.resolve_left (fun e => by rw [e] at hkl; exact absurd hkl (Nat.not_lt_zero k))
      obtain ⟨s, hs⟩ := hx k _ hc
      have hs2 := range_turn hs TV id
      unfold Cd.cells at hs2
      dsimp only at hs2
      have z0 := hs2 0 _ rfl
      have z1 := hs2 1 _ rfl
      have z2 := hs2 2 _ rfl
      have z3 := hs2 3 _ rfl
      have z4 := hs2 4 _ rfl
      rw [Nat.add_zero] at z0
      have w1 : decide ((k : Int) < (l.length : Int)) = true := decide_eq_true (Int.ofNat_lt.2 hkl)
      have w2 : decide (k < l.length) = true := decide_eq_true hkl
      have m0 : (0 : Int) ≤ (k : Int) := Int.natCast_nonneg k
      have m1 : (k : Int) < (l.length : Int) := Int.ofNat_lt.2 hkl
      have ek := wrapR hkl hl
      obtain ⟨W1, hW1⟩ : ∃ W1, W1 = wr.alloc (.cells #[.int .i64 op, .int .i64 nn, .string s, .int .i64 fld, .int .i64 pl] 65) := ⟨_, rfl⟩
      have T1 : Turn (fun _ => False) wr W1 := by rw [hW1]; exact (Turn.refl _ wr).alloc _
      have qg : W1.rangeAt wr.heap.size 0 [.int .i64 op, .int .i64 nn, .string s, .int .i64 fld, .int .i64 pl] := by rw [hW1]; exact range_new wr [.int .i64 op, .int .i64 nn, .string s, .int .i64 fld, .int .i64 pl] 65
      have q0 := qg 0 _ rfl
      have q1 := qg 1 _ rfl
      have q3 := qg 3 _ rfl
      have q4 := qg 4 _ rfl
      rw [Nat.zero_add] at q1 q3 q4
      obtain ⟨ea, ec, hev, cset⟩ := rset_is (HE.out.turn (TV.trans T1)) pl
      have CSET := Lib.hid cset
      have HEV := Lib.hid hev
      have CNT := Lib.hid (show (envE X).cnt pl = ((setE X pl).length : Int) ∧ (envE X).last pl = lastE (setE X pl) from ⟨rfl, rfl⟩)
      have hns9 : (setE X pl).length ≤ 100000 := by
        unfold setE
        split
        · exact Nat.zero_le _
        · rw [List.getD_eq_getElem?_getD]
          cases hq : X[pl.toNat]? with
          | none => exact Nat.zero_le _
          | some m => exact hX.2 m (List.mem_of_getElem? hq)
      generalize setE X pl = ev at *
      generalize hns : ev.length = ns at *
      have HNS := Lib.hid hns
      have NXT := Lib.hid (fun (st' : List Int) (hs : stepCd (envE X) st ⟨op, nn, fld, pl⟩ = some st') (W2 wa : World) (v' : Value) (T2 : Turn (fun _ => False) wr W2) (h1 : wa.ownsRow (rb + 1) 2 1 v' st'.length (nums st')) (h2 : Turn (fun q => (Value.slice ao st.length co).ownBlock = some q) W2 wa) => rv_next hkl hc hst hs ho hrr TV HRB.out T2 h1 h2)
      have STOP := Lib.hid (fun (hn : stepCd (envE X) st ⟨op, nn, fld, pl⟩ = none) => eval_stop hc hst hn)
      have ROW := Lib.hid (And.intro ho T1)
      have RES := Lib.hid (And.intro hrr TV)
      have SL := Lib.hid sl2
      have RB := Lib.hid (show rb + 1 ≤ wr.heap.size by have := TV.size; have := HRB.out; have := (Blk.lt hrr.2); omega)
      have G := Lib.hid (And.intro hg hkl)
      have OLT := Lib.hid (show ∀ q, (Value.slice ao st.length co).ownBlock = some q → q < wr.heap.size from fun q hq => (ho.lt q hq).2)
      have NS9 := Lib.hid (show ns ≤ 100000 from hns9)
      have SZ := Lib.hid (show rb + 1 ≤ W1.heap.size from Nat.le_trans RB.out T1.size)
      have R1 := Lib.hid (show W1.rangeAt rb 0 [.int .i64 0, .bool false] ∧ Blk W1 rb 107 from ⟨range_turn hrr.1 T1 id, hrr.2.turn T1 id⟩)
      have HW1 := Lib.hid hW1
      clear hk hg hkl hst ho hrr TV hla hx hs hs2 hW1 T1 qg hev cset hns sl sl2 hc HC
      go_upto_region 6 with fail
      rw [← HW1.out]
      clear HW1 z0 z1 z2 z3 z4
      generalize wr.heap.size = cb at *
      go_wp2_with fail
      with_reducible refine CSET.out.mono ?_
      rintro en Wq ⟨rfl, rfl⟩
      clear CSET q4
      by_cases o6 : op = 6
      · subst o6
        clear q3
        obtain ⟨ho, T1⟩ := ROW.out
        obtain ⟨v', W', hrun, ho', T'⟩ := app_num (own_turn ho T1 (fun _ _ f => f)) SZ.out (Nat.le_trans SL.out (by decide)) nn
        have RUN := Lib.hid hrun
        have ST := Lib.hid (NXT.out _ rfl _ _ _ T1 (by rw [nums_cons]; exact ho') T')
        clear hrun ho' T' ho T1
        go_wp2_with (refine rl_append_run (by rfl) _ _ _ (by rfl) (by rfl) (by rfl) RUN.out ?_)
        go_roundg (l.length - (k + 1))
        case measure => have := G.out.1; have := G.out.2; omega
        case rel => first | exact ST.out | (rw [ek]; exact ST.out)
      have k6 : (op == 6) = false := beq_eq_false_iff_ne.2 o6
      by_cases o8 : op = 8
      · subst o8
        clear q1 q3
        obtain ⟨ho, T1⟩ := ROW.out
        obtain ⟨v', W', hrun, ho', T'⟩ := app_num (own_turn ho T1 (fun _ _ f => f)) SZ.out (Nat.le_trans SL.out (by decide)) ((ns : Nat) : Int)
        have RUN := Lib.hid hrun
        have ST := Lib.hid (NXT.out _ (show stepCd (envE X) st ⟨8, nn, fld, pl⟩ = some (((ns : Nat) : Int) :: st) from by rw [← CNT.out.1]; rfl) _ _ _ T1 (by rw [nums_cons]; exact ho') T')
        clear hrun ho' T' ho T1
        go_wp2_with (refine rl_append_run (by rfl) _ _ _ (by rfl) (by rfl) (by rfl) RUN.out ?_)
        go_roundg (l.length - (k + 1))
        case measure => have := G.out.1; have := G.out.2; omega
        case rel => first | exact ST.out | (rw [ek]; exact ST.out)
      have k8 : (op == 8) = false := beq_eq_false_iff_ne.2 o8
      by_cases o7 : op = 7
      · subst o7
        by_cases h0 : ns = 0 ∨ fld < 0 ∨ 4 ≤ fld
        · have HN := Lib.hid (show stepCd (envE X) st ⟨7, nn, fld, pl⟩ = none from by
            have hh : (envE X).cnt pl = 0 ∨ fld < 0 ∨ 4 ≤ fld := by rw [CNT.out.1]; omega
            show (if (envE X).cnt pl = 0 ∨ fld < 0 ∨ 4 ≤ fld then none else some ((envE X).last pl fld :: st)) = none
            rw [if_pos hh])
          by_cases g0 : ns = 0
          · have k0 : ((ns : Int) == 0) = true := by rw [g0]; rfl
            clear h0 g0
            have r0 := R1.out.1 0 _ rfl
            have r1 := R1.out.1 1 _ rfl
            rw [Nat.zero_add] at r1
            have f0 := R1.out.2.fz 0
            have f1 := R1.out.2.fz 1
            have TH := Lib.hid (show W1.there rb 0 2 from range_there R1.out.1 rfl R1.out.2)
            have NN := Lib.hid (STOP.out HN.out)
            have TTT := Lib.hid (show Turn (fun _ => False) w W1 from RES.out.2.trans ROW.out.2)
            go_wp2_with fail
            exact bodyPost_ret (v := .agg #[.int .i64 0, .bool false]) (res_cell (a := 4) rfl rfl (run_loadVar_mid _ rb 0 107 _ _ (World.rangeAt_setCells_same _ rb 0 [.int .i64 0, .bool false] TH.out) Try.underlying107 rfl size107)) rfl ⟨by rw [NN.out]; rfl, rv_res TTT.out HRB.out 0 false⟩
          have k0 : ((ns : Int) == 0) = false := beq_eq_false_iff_ne.2 (by omega)
          by_cases g1 : fld < 0
          · have k1 : decide (fld < 0) = true := decide_eq_true g1
            clear h0 g0 g1
            have r0 := R1.out.1 0 _ rfl
            have r1 := R1.out.1 1 _ rfl
            rw [Nat.zero_add] at r1
            have f0 := R1.out.2.fz 0
            have f1 := R1.out.2.fz 1
            have TH := Lib.hid (show W1.there rb 0 2 from range_there R1.out.1 rfl R1.out.2)
            have NN := Lib.hid (STOP.out HN.out)
            have TTT := Lib.hid (show Turn (fun _ => False) w W1 from RES.out.2.trans ROW.out.2)
            go_wp2_with fail
            exact bodyPost_ret (v := .agg #[.int .i64 0, .bool false]) (res_cell (a := 4) rfl rfl (run_loadVar_mid _ rb 0 107 _ _ (World.rangeAt_setCells_same _ rb 0 [.int .i64 0, .bool false] TH.out) Try.underlying107 rfl size107)) rfl ⟨by rw [NN.out]; rfl, rv_res TTT.out HRB.out 0 false⟩
          have k1 : decide (fld < 0) = false := decide_eq_false g1
          have k2 : decide ((3 : Int) < fld) = true := decide_eq_true (by omega)
          clear h0 g0 g1
          have r0 := R1.out.1 0 _ rfl
          have r1 := R1.out.1 1 _ rfl
          rw [Nat.zero_add] at r1
          have f0 := R1.out.2.fz 0
          have f1 := R1.out.2.fz 1
          have TH := Lib.hid (show W1.there rb 0 2 from range_there R1.out.1 rfl R1.out.2)
          have NN := Lib.hid (STOP.out HN.out)
          have TTT := Lib.hid (show Turn (fun _ => False) w W1 from RES.out.2.trans ROW.out.2)
          go_wp2_with fail
          exact bodyPost_ret (v := .agg #[.int .i64 0, .bool false]) (res_cell (a := 4) rfl rfl (run_loadVar_mid _ rb 0 107 _ _ (World.rangeAt_setCells_same _ rb 0 [.int .i64 0, .bool false] TH.out) Try.underlying107 rfl size107)) rfl ⟨by rw [NN.out]; rfl, rv_res TTT.out HRB.out 0 false⟩
        obtain ⟨f, rfl⟩ : ∃ f : Nat, fld = (f : Int) := ⟨fld.toNat, by omega⟩
        obtain ⟨n', hnn⟩ : ∃ n', ns = n' + 1 := ⟨ns - 1, by omega⟩
        have f4 : f < 4 := by omega
        have hn1 : n' < ns := by omega
        have e1 : wrap64 ((ns : Int) - 1) = (n' : Int) := wrapS hnn NS9.out
        have e2 : IntKind.i64.wrap ((ns : Int) - 1) = (n' : Int) := wrapS2 hnn NS9.out
        have k0 : ((ns : Int) == 0) = false := beq_eq_false_iff_ne.2 (by omega)
        have k1 : decide (((f : Nat) : Int) < 0) = false := decide_eq_false (by omega)
        have k2 : decide ((3 : Int) < ((f : Nat) : Int)) = false := decide_eq_false (by omega)
        have b0 : (0 : Int) ≤ (n' : Int) := Int.natCast_nonneg n'
        have b1 : (n' : Int) < (ns : Int) := Int.ofNat_lt.2 hn1
        have b2 : (0 : Int) ≤ (f : Int) := Int.natCast_nonneg f
        have b3 : (f : Int) < 4 := by omega
        obtain ⟨x, hx⟩ : ∃ x, ev[n']? = some x := ⟨_, List.getElem?_eq_getElem (by rw [HNS.out]; exact hn1)⟩
        obtain ⟨eb, eo, ec', e, hbk, hr⟩ := HEV.out.at hx
        obtain rfl : ea = some ⟨eb, eo, none⟩ := by injection e
        clear e
        have hy := hr (2 + f) _ (num_cell x f f4)
        rw [← Nat.add_assoc] at hy
        have HS := Lib.hid (show stepCd (envE X) st ⟨7, nn, (f : Int), pl⟩ = some (x.num (f : Int) :: st) from by
          have hh : ¬ ((envE X).cnt pl = 0 ∨ (f : Int) < 0 ∨ 4 ≤ (f : Int)) := by rw [CNT.out.1]; omega
          show (if (envE X).cnt pl = 0 ∨ (f : Int) < 0 ∨ 4 ≤ (f : Int) then none else some ((envE X).last pl (f : Int) :: st)) = _
          rw [if_neg hh, CNT.out.2]
          unfold lastE
          rw [List.getLast?_eq_getElem?, show ev.length - 1 = n' by rw [HNS.out]; omega, hx])
        generalize x.num (f : Int) = y at *
        have TD : Turn (fun _ => False) W1 W1.drew := (Turn.refl _ W1).drewN 1
        obtain ⟨ho, T1⟩ := ROW.out
        have hoD := own_turn (own_turn ho T1 (fun _ _ f => f)) TD (fun _ _ f => f)
        obtain ⟨v', W', hrun, ho', T9⟩ := app_num hoD SZ.out (Nat.le_trans SL.out (by decide)) y
        have RUN := Lib.hid hrun
        have ST := Lib.hid (NXT.out _ HS.out _ _ _ (T1.trans TD) (by rw [nums_cons]; exact ho') T9)
        have HT9 := Lib.hid ((TD.more (fun _ _ f => f.elim)).trans T9)
        have FF := Lib.hid (show ∀ U, Turn (fun q => (Value.slice ao st.length co).ownBlock = some q) W1 U → U.cell? ⟨cb, 3, none⟩ = some (.int .i64 ((f : Nat) : Int)) ∧ U.cell? ⟨eb, eo + n' * 6 + 2 + f, none⟩ = some (.int .i64 y) ∧ Turn (fun q => (Value.slice ao st.length co).ownBlock = some q) W1 U from fun U TU => ⟨TU.cell (fun e => absurd (OLT.out cb e) (Nat.lt_irrefl cb)) q3, TU.cell (fun e => own_ne2 (own_turn ho T1 (fun _ _ f => f)) hbk (by decide) e) hy, TU⟩)
        have sD := FF.out W1.drew (TD.more (fun _ _ f => f.elim))
        clear hrun ho' T9 ho T1 TD hoD hx hr hbk hn1 hy h0 f4 q1 hnn
        go_upto_region 22 with fail
        refine wp_region_held_drew (S := fun w' => w'.cell? ⟨cb, 3, none⟩ = some (.int .i64 ((f : Nat) : Int)) ∧ w'.cell? ⟨eb, eo + n' * 6 + 2 + f, none⟩ = some (.int .i64 y) ∧ Turn (fun q => (Value.slice ao st.length co).ownBlock = some q) W1 w') (by kernel_rfl) ?hs0 (fun hS0 => ?_)
        case hs0 => exact sD
        refine wpAnyH_take (i := 0) (oi := { dst := some 89, op := Op.move (Operand.tmp 5), type := 120, pos := "ref.go:33", after := #[], guard := none }) (v := ?_) rfl (by kernel_rfl) (by kernel_rfl) (by kernel_rfl) (fun _ _ _ h => h) (Or.inl ⟨by rfl, ?hy1⟩) hS0 ?_
        case hy1 => (intro w hSw; (try dsimp only at hSw); go_simp; try with_reducible rfl)
        try simp only [Act.put, List.setIfInBounds_toArray, List.set_cons_zero, List.set_cons_succ]
        refine wpAnyH_take (i := 1) (oi := { dst := some 90, op := Op.move (Operand.tmp 8), type := 36, pos := "ref.go:33", after := #[], guard := none }) (v := ?_) rfl (by kernel_rfl) (by kernel_rfl) (by kernel_rfl) (fun _ _ _ h => h) (Or.inl ⟨by rfl, ?hy2⟩) hS0 ?_
        case hy2 => (intro w hSw; (try dsimp only at hSw); go_simp; try with_reducible rfl)
        try simp only [Act.put, List.setIfInBounds_toArray, List.set_cons_zero, List.set_cons_succ]
        refine wpAnyH_take (i := 2) (oi := { dst := some 91, op := Op.move (Operand.tmp 8), type := 36, pos := "ref.go:33", after := #[], guard := none }) (v := ?_) rfl (by kernel_rfl) (by kernel_rfl) (by kernel_rfl) (fun _ _ _ h => h) (Or.inl ⟨by rfl, ?hy3⟩) hS0 ?_
        case hy3 => (intro w hSw; (try dsimp only at hSw); go_simp; try with_reducible rfl)
        try simp only [Act.put, List.setIfInBounds_toArray, List.set_cons_zero, List.set_cons_succ]
        refine wpAnyH_take (i := 3) (oi := { dst := some 92, op := Op.call { callee := Callee.builtin Builtin.len, args := #[Operand.tmp 91], argTypes := #[36] }, type := 3, pos := "ref.go:33", after := #[{ on := 2, ground := Ground.data }], guard := none }) (v := ?_) rfl (by kernel_rfl) (by kernel_rfl) (by kernel_rfl) (fun _ _ _ h => h) (Or.inl ⟨by rfl, ?hy4⟩) hS0 ?_
        case hy4 => (intro w hSw; (try dsimp only at hSw); go_simp; try with_reducible rfl)
        try simp only [Act.put, List.setIfInBounds_toArray, List.set_cons_zero, List.set_cons_succ]
        refine wpAnyH_take (i := 4) (oi := { dst := some 93, op := Op.binOp BinOp.sub 3 (Operand.tmp 92) (Operand.const (Value.int IntKind.i64 1)) 3, type := 3, pos := "ref.go:33", after := #[{ on := 3, ground := Ground.data }], guard := none }) (v := ?_) rfl (by kernel_rfl) (by kernel_rfl) (by kernel_rfl) (fun _ _ _ h => h) (Or.inl ⟨by rfl, ?hy5⟩) hS0 ?_
        case hy5 => (intro w hSw; (try dsimp only at hSw); go_simp; try with_reducible rfl)
        try simp only [Act.put, List.setIfInBounds_toArray, List.set_cons_zero, List.set_cons_succ]
        refine wpAnyH_take (i := 5) (oi := { dst := some 94, op := Op.fieldAddr 65 (Operand.tmp 7) 3, type := 0, pos := "ref.go:33", after := #[], guard := none }) (v := ?_) rfl (by kernel_rfl) (by kernel_rfl) (by kernel_rfl) (fun _ _ _ h => h) (Or.inl ⟨by rfl, ?hy6⟩) hS0 ?_
        case hy6 => (intro w hSw; (try dsimp only at hSw); go_simp; try with_reducible rfl)
        try simp only [Act.put, List.setIfInBounds_toArray, List.set_cons_zero, List.set_cons_succ]
        refine wpAnyH_take (i := 6) (oi := { dst := some 95, op := Op.load 3 (Operand.tmp 94), type := 3, pos := "ref.go:33", after := #[{ on := 5, ground := Ground.data }], guard := none }) (v := ?_) rfl (by kernel_rfl) (by kernel_rfl) (by kernel_rfl) (fun _ _ _ h => h) (Or.inl ⟨by rfl, ?hy7⟩) hS0 ?_
        case hy7 => (intro w hSw; (try dsimp only at hSw); go_simp; try with_reducible rfl)
        try simp only [Act.put, List.setIfInBounds_toArray, List.set_cons_zero, List.set_cons_succ]
        refine wpAnyH_take (i := 7) (oi := { dst := some 96, op := Op.indexAddr 36 (Operand.tmp 90) (Operand.tmp 93), type := 0, pos := "ref.go:33", after := #[{ on := 1, ground := Ground.data }, { on := 4, ground := Ground.data }], guard := none }) (v := ?_) rfl (by kernel_rfl) (by kernel_rfl) (by kernel_rfl) (fun _ _ _ h => h) (Or.inl ⟨by rfl, ?hy8⟩) hS0 ?_
        case hy8 => (intro w hSw; (try dsimp only at hSw); go_simp; try with_reducible rfl)
        try simp only [Act.put, List.setIfInBounds_toArray, List.set_cons_zero, List.set_cons_succ]
        refine wpAnyH_take (i := 8) (oi := { dst := some 97, op := Op.fieldAddr 62 (Operand.tmp 96) 2, type := 0, pos := "ref.go:33", after := #[{ on := 7, ground := Ground.data }], guard := none }) (v := ?_) rfl (by kernel_rfl) (by kernel_rfl) (by kernel_rfl) (fun _ _ _ h => h) (Or.inl ⟨by rfl, ?hy9⟩) hS0 ?_
        case hy9 => (intro w hSw; (try dsimp only at hSw); go_simp; try with_reducible rfl)
        try simp only [Act.put, List.setIfInBounds_toArray, List.set_cons_zero, List.set_cons_succ]
        refine wpAnyH_take (i := 9) (oi := { dst := some 98, op := Op.indexAddr 60 (Operand.tmp 97) (Operand.tmp 95), type := 0, pos := "ref.go:33", after := #[{ on := 8, ground := Ground.data }, { on := 6, ground := Ground.data }], guard := none }) (v := ?_) rfl (by kernel_rfl) (by kernel_rfl) (by kernel_rfl) (fun _ _ _ h => h) (Or.inl ⟨by rfl, ?hy10⟩) hS0 ?_
        case hy10 => (intro w hSw; (try dsimp only at hSw); go_simp; try with_reducible rfl)
        try simp only [Act.put, List.setIfInBounds_toArray, List.set_cons_zero, List.set_cons_succ]
        refine wpAnyH_take (i := 10) (oi := { dst := some 99, op := Op.load 2 (Operand.tmp 98), type := 2, pos := "ref.go:33", after := #[{ on := 9, ground := Ground.data }], guard := none }) (v := ?_) rfl (by kernel_rfl) (by kernel_rfl) (by kernel_rfl) (fun _ _ _ h => h) (Or.inl ⟨by rfl, ?hy11⟩) hS0 ?_
        case hy11 => (intro w hSw; (try dsimp only at hSw); go_simp; try with_reducible rfl)
        try simp only [Act.put, List.setIfInBounds_toArray, List.set_cons_zero, List.set_cons_succ]
        refine wpAnyH_ready (rs := [11]) (by kernel_rfl) (by simp) ?_
        refine AllReadyH.cons (o := { dst := some 100, op := Op.buildSlice 120 1 #[(0, Operand.tmp 99)], type := 120, pos := "ref.go:33", after := #[{ on := 10, ground := Ground.data }], guard := none }) rfl (fun K hK => ?_) AllReadyH.nil
        go_simp
        refine hK.out _ _ ?hs12 (fun hS12 => ?_)
        case hs12 => exact FF.out _ (sD.2.2.alloc _)
        clear hK K hS0
        refine wpAnyH_ready (rs := [12]) (by kernel_rfl) (by simp) ?_
        refine AllReadyH.cons (o := { dst := some 101, op := Op.call { callee := Callee.builtin Builtin.append, args := #[Operand.tmp 89, Operand.tmp 100], argTypes := #[120, 120] }, type := 120, pos := "ref.go:33", after := #[{ on := 0, ground := Ground.data }, { on := 11, ground := Ground.data }], guard := none }) rfl (fun K hK => ?_) AllReadyH.nil
        refine rs_append_run (by rfl) _ _ _ (by rfl) (by rfl) (by rfl) RUN.out ?_
        refine hK.out _ _ ?hs13 (fun hS13 => ?_)
        case hs13 => exact FF.out _ HT9.out
        clear hK K hS12
        refine wpAnyH_take (i := 13) (oi := { dst := some 5, op := Op.assign (Operand.tmp 101), type := 120, pos := "ref.go:33", after := #[{ on := 12, ground := Ground.data }, { on := 12, ground := Ground.chain }, { on := 0, ground := Ground.phase }, { on := 1, ground := Ground.phase }, { on := 2, ground := Ground.phase }, { on := 3, ground := Ground.phase }, { on := 4, ground := Ground.phase }, { on := 5, ground := Ground.phase }, { on := 6, ground := Ground.phase }, { on := 7, ground := Ground.phase }, { on := 8, ground := Ground.phase }, { on := 9, ground := Ground.phase }, { on := 10, ground := Ground.phase }, { on := 11, ground := Ground.phase }, { on := 12, ground := Ground.phase }], guard := none }) (v := ?_) rfl (by kernel_rfl) (by kernel_rfl) (by kernel_rfl) (fun _ _ _ h => h) (Or.inl ⟨by rfl, ?hy14⟩) hS13 ?_
        case hy14 => (intro w hSw; (try dsimp only at hSw); go_simp; try with_reducible rfl)
        try simp only [Act.put, List.setIfInBounds_toArray, List.set_cons_zero, List.set_cons_succ]
        refine wpAnyH_done (by kernel_rfl) ?_ _
        clear sD
        go_wp2_with fail
        go_roundg (l.length - (k + 1))
        case measure => have := G.out.1; have := G.out.2; omega
        case rel => first | exact ST.out | (rw [ek]; exact ST.out)
      have k7 : (op == 7) = false := beq_eq_false_iff_ne.2 o7
      by_cases o9 : op = 9
      · subst o9
        clear q1 q3
        cases st with
        | nil =>
          have kst : decide (((([] : List Int).length : Nat) : Int) < 1) = true := by decide
          have r0 := R1.out.1 0 _ rfl
          have r1 := R1.out.1 1 _ rfl
          rw [Nat.zero_add] at r1
          have f0 := R1.out.2.fz 0
          have f1 := R1.out.2.fz 1
          have TH := Lib.hid (show W1.there rb 0 2 from range_there R1.out.1 rfl R1.out.2)
          have NN := Lib.hid (STOP.out rfl)
          have TTT := Lib.hid (show Turn (fun _ => False) w W1 from RES.out.2.trans ROW.out.2)
          go_wp2_with fail
          exact bodyPost_ret (v := .agg #[.int .i64 0, .bool false]) (res_cell (a := 4) rfl rfl (run_loadVar_mid _ rb 0 107 _ _ (World.rangeAt_setCells_same _ rb 0 [.int .i64 0, .bool false] TH.out) Try.underlying107 rfl size107)) rfl ⟨by rw [NN.out]; rfl, rv_res TTT.out HRB.out 0 false⟩
        | cons b r =>
          have kst : decide (((b :: r).length : Int) < 1) = false := decide_eq_false (by simp; omega)
          obtain ⟨g, rfl⟩ := hao (by simp)
          obtain ⟨x, hx⟩ : ∃ x, x = wrap64 (0 + wrap64 (-b)) := ⟨_, rfl⟩
          have e3 : IntKind.i64.wrap (-b) = x := by rw [hx]; exact neg_is b
          have e4 : wrap64 (-b) = x := by rw [hx]; exact neg_is2 b
          have e5 : IntKind.i64.wrap (0 - b) = x := by rw [Int.zero_sub]; exact e3
          obtain ⟨ho, T1⟩ := ROW.out
          have how := own_turn ho T1 (fun _ _ f => f)
          rw [nums_cons] at how
          obtain ⟨hco, RB0⟩ := row_of how
          have cb0 : W1.cell? ⟨g, r.length, none⟩ = some (.int .i64 b) := (how.cellAt r.length (by simp)).trans (by rw [List.getElem?_append_right (by rw [nums_len]; exact Nat.le_refl _), nums_len]; simp)
          have NXT2 := Lib.hid (show ∀ (wa : World) (v' : Value), Turn (fun _ => False) W1 wa → wa.ownsRow (rb + 1) 2 1 v' (x :: r).length (nums (x :: r)) → _ from fun wa v' TT h1 => NXT.out (x :: r) (by rw [hx]; rfl) W1 wa v' T1 h1 (TT.more (fun _ _ f => f.elim)))
          have RR := Lib.hid (show ∀ U, Turn (fun _ => False) W1 U → RowAt U (.slice (some ⟨g, 0, none⟩) r.length co) r.reverse from fun U TU => RB0.turn TU)
          have STX := Lib.hid (show ∀ (wa : World) (v' : Value), Turn (fun _ => False) W1 wa → wa.ownsRow W1.heap.size 2 1 v' (0 + r.reverse.length + 1) ([] ++ intsV r.reverse ++ [.int .i64 x]) → _ from fun wa v' TT h1 => NXT2.out wa v' TT (by
            have e : 0 + r.reverse.length + 1 = (x :: r).length := by simp
            have e2 : [] ++ intsV r.reverse ++ [Value.int .i64 x] = nums (x :: r) := by rw [nums_cons]; simp [nums, intsV]
            rw [e, e2] at h1
            exact own_base h1 SZ.out))
          have SL2 := SL.out
          simp at SL2
          have FF := Lib.hid (show ∀ U, Turn (fun _ => False) W1 U → U.cell? ⟨g, r.length, none⟩ = some (.int .i64 b) ∧ Turn (fun _ => False) W1 U from fun U TU => ⟨TU.cell id cb0, TU⟩)
          have sT : Turn (fun _ => False) W1 W1.drew := (Turn.refl _ W1).drewN 1
          have sD := FF.out _ sT
          clear ho T1 how RB0 hx ROW NXT NXT2
          obtain ⟨m, hm⟩ : ∃ m, m = r.length := ⟨_, rfl⟩
          have HM := Lib.hid hm
          rw [← hm] at SL2 hco
          have wm : IntKind.i64.wrap (m : Int) = (m : Int) := IntWalk.i64_in _ (by omega)
          have wm2 : wrap64 (m : Int) = (m : Int) := wrapI (by omega)
          have m2 : (0 : Int) ≤ (m : Int) := Int.natCast_nonneg m
          have m3 : (m : Int) < (m : Int) + 1 := Int.lt_add_one_of_le (Int.le_refl _)
          have m4 : (m : Int) ≤ (co : Int) := Int.ofNat_le.2 hco
          go_upto_region 26 with fail
          rw [← hm]
          rw [← hm] at FF RR sD
          clear hm
          refine wp_region_held_drew (S := fun w' => w'.cell? ⟨g, m, none⟩ = some (.int .i64 b) ∧ Turn (fun _ => False) W1 w') (by kernel_rfl) ?hs0 (fun hS0 => ?_)
          case hs0 => exact sD
          refine wpAnyH_take (i := 1) (oi := { dst := some 108, op := Op.move (Operand.tmp 5), type := 120, pos := "ref.go:38", after := #[], guard := none }) (v := ?_) rfl (by kernel_rfl) (by kernel_rfl) (by kernel_rfl) (fun _ _ _ h => h) (Or.inl ⟨by rfl, ?hy1⟩) hS0 ?_
          case hy1 => (intro w hSw; (try dsimp only at hSw); go_simp; try with_reducible rfl)
          try simp only [Act.put, List.setIfInBounds_toArray, List.set_cons_zero, List.set_cons_succ]
          refine wpAnyH_take (i := 2) (oi := { dst := some 109, op := Op.move (Operand.tmp 9), type := 3, pos := "ref.go:38", after := #[], guard := none }) (v := ?_) rfl (by kernel_rfl) (by kernel_rfl) (by kernel_rfl) (fun _ _ _ h => h) (Or.inl ⟨by rfl, ?hy2⟩) hS0 ?_
          case hy2 => (intro w hSw; (try dsimp only at hSw); go_simp; try with_reducible rfl)
          try simp only [Act.put, List.setIfInBounds_toArray, List.set_cons_zero, List.set_cons_succ]
          refine wpAnyH_take (i := 3) (oi := { dst := some 110, op := Op.binOp BinOp.sub 3 (Operand.tmp 109) (Operand.const (Value.int IntKind.i64 1)) 3, type := 3, pos := "ref.go:38", after := #[{ on := 2, ground := Ground.data }], guard := none }) (v := ?_) rfl (by kernel_rfl) (by kernel_rfl) (by kernel_rfl) (fun _ _ _ h => h) (Or.inl ⟨by rfl, ?hy3⟩) hS0 ?_
          case hy3 => (intro w hSw; (try dsimp only at hSw); go_simp; try with_reducible rfl)
          try simp only [Act.put, List.setIfInBounds_toArray, List.set_cons_zero, List.set_cons_succ]
          refine wpAnyH_take (i := 4) (oi := { dst := some 111, op := Op.slice 120 (Operand.tmp 108) none (some (Operand.tmp 110)) none, type := 120, pos := "ref.go:38", after := #[{ on := 1, ground := Ground.data }, { on := 3, ground := Ground.data }], guard := none }) (v := ?_) rfl (by kernel_rfl) (by kernel_rfl) (by kernel_rfl) (fun _ _ _ h => h) (Or.inl ⟨by rfl, ?hy4⟩) hS0 ?_
          case hy4 => (intro w hSw; (try dsimp only at hSw); go_simp; try with_reducible rfl)
          try simp only [Act.put, List.setIfInBounds_toArray, List.set_cons_zero, List.set_cons_succ]
          refine wpAnyH_take (i := 6) (oi := { dst := some 113, op := Op.move (Operand.tmp 5), type := 120, pos := "ref.go:38", after := #[], guard := none }) (v := ?_) rfl (by kernel_rfl) (by kernel_rfl) (by kernel_rfl) (fun _ _ _ h => h) (Or.inl ⟨by rfl, ?hy5⟩) hS0 ?_
          case hy5 => (intro w hSw; (try dsimp only at hSw); go_simp; try with_reducible rfl)
          try simp only [Act.put, List.setIfInBounds_toArray, List.set_cons_zero, List.set_cons_succ]
          refine wpAnyH_take (i := 7) (oi := { dst := some 114, op := Op.move (Operand.tmp 9), type := 3, pos := "ref.go:38", after := #[], guard := none }) (v := ?_) rfl (by kernel_rfl) (by kernel_rfl) (by kernel_rfl) (fun _ _ _ h => h) (Or.inl ⟨by rfl, ?hy6⟩) hS0 ?_
          case hy6 => (intro w hSw; (try dsimp only at hSw); go_simp; try with_reducible rfl)
          try simp only [Act.put, List.setIfInBounds_toArray, List.set_cons_zero, List.set_cons_succ]
          refine wpAnyH_take (i := 8) (oi := { dst := some 115, op := Op.binOp BinOp.sub 3 (Operand.tmp 114) (Operand.const (Value.int IntKind.i64 1)) 3, type := 3, pos := "ref.go:38", after := #[{ on := 7, ground := Ground.data }], guard := none }) (v := ?_) rfl (by kernel_rfl) (by kernel_rfl) (by kernel_rfl) (fun _ _ _ h => h) (Or.inl ⟨by rfl, ?hy7⟩) hS0 ?_
          case hy7 => (intro w hSw; (try dsimp only at hSw); go_simp; try with_reducible rfl)
          try simp only [Act.put, List.setIfInBounds_toArray, List.set_cons_zero, List.set_cons_succ]
          refine wpAnyH_take (i := 9) (oi := { dst := some 116, op := Op.indexAddr 120 (Operand.tmp 113) (Operand.tmp 115), type := 0, pos := "ref.go:38", after := #[{ on := 6, ground := Ground.data }, { on := 8, ground := Ground.data }], guard := none }) (v := ?_) rfl (by kernel_rfl) (by kernel_rfl) (by kernel_rfl) (fun _ _ _ h => h) (Or.inl ⟨by rfl, ?hy8⟩) hS0 ?_
          case hy8 => (intro w hSw; (try dsimp only at hSw); go_simp; try with_reducible rfl)
          try simp only [Act.put, List.setIfInBounds_toArray, List.set_cons_zero, List.set_cons_succ]
          refine wpAnyH_take (i := 10) (oi := { dst := some 117, op := Op.load 2 (Operand.tmp 116), type := 2, pos := "ref.go:38", after := #[{ on := 9, ground := Ground.data }], guard := none }) (v := ?_) rfl (by kernel_rfl) (by kernel_rfl) (by kernel_rfl) (fun _ _ _ h => h) (Or.inl ⟨by rfl, ?hy9⟩) hS0 ?_
          case hy9 => (intro w hSw; (try dsimp only at hSw); go_simp; try with_reducible rfl)
          try simp only [Act.put, List.setIfInBounds_toArray, List.set_cons_zero, List.set_cons_succ]
          refine wpAnyH_take (i := 11) (oi := { dst := some 118, op := Op.binOp BinOp.sub 2 (Operand.const (Value.int IntKind.i64 0)) (Operand.tmp 117) 2, type := 2, pos := "ref.go:38", after := #[{ on := 10, ground := Ground.data }], guard := none }) (v := ?_) rfl (by kernel_rfl) (by kernel_rfl) (by kernel_rfl) (fun _ _ _ h => h) (Or.inl ⟨by rfl, ?hy10⟩) hS0 ?_
          case hy10 => (intro w hSw; (try dsimp only at hSw); go_simp; try with_reducible rfl)
          try simp only [Act.put, List.setIfInBounds_toArray, List.set_cons_zero, List.set_cons_succ]
          refine wpAnyH_ready (rs := [0, 12]) (by kernel_rfl) (by simp) ?_
          refine AllReadyH.cons (o := { dst := some 107, op := Op.buildSlice 120 0 #[], type := 120, pos := "ref.go:38", after := #[], guard := none }) rfl (fun K hK => ?_) ?_
          · skip
            go_simp
            refine hK.out _ _ ?hs11 (fun hS11 => ?_)
            case hs11 => exact FF.out _ (sT.alloc _)
            clear hK K hS0
            have OE := own_empty sT
            have TE := sT.alloc (.cells #[] 2)
            refine wpAnyH_ready (rs := [5, 12]) (by kernel_rfl) (by simp) ?_
            refine AllReadyH.cons (o := { dst := some 112, op := Op.call { callee := Callee.builtin Builtin.append, args := #[Operand.tmp 107, Operand.tmp 111], argTypes := #[120, 120] }, type := 120, pos := "ref.go:38", after := #[{ on := 0, ground := Ground.data }, { on := 4, ground := Ground.data }], guard := none }) rfl (fun K hK => ?_) ?_
            · skip
              obtain ⟨v5, V5, RUNh, RO5, T5⟩ := nums_app2 (l := r.reverse) OE TE.size (by have := SL.out; simp at this ⊢; omega) (RR.out _ TE)
              have TX5 := turn_fresh TE OE T5
              have RUN5 := Lib.hid RUNh
              clear RUNh
              refine rs_append_run (by rfl) _ _ _ (by rfl) (by rfl) (by rfl) RUN5.out ?_
              refine hK.out _ _ ?hs12 (fun hS12 => ?_)
              case hs12 => exact FF.out _ TX5
              clear hK K hS11
              refine wpAnyH_ready (rs := [12]) (by kernel_rfl) (by simp) ?_
              refine AllReadyH.cons (o := { dst := some 119, op := Op.buildSlice 120 1 #[(0, Operand.tmp 118)], type := 120, pos := "ref.go:38", after := #[{ on := 11, ground := Ground.data }], guard := none }) rfl (fun K hK => ?_) AllReadyH.nil
              go_simp
              refine hK.out _ _ ?hs13 (fun hS13 => ?_)
              case hs13 => exact FF.out _ (TX5.alloc _)
              clear hK K hS12
              have CP := cell_new V5 x
              have TP := TX5.alloc (.cells #[.int .i64 x] 2)
              have RO6 := own_turn RO5 ((Turn.refl (fun _ => False) V5).alloc (.cells #[.int .i64 x] 2)) (fun _ _ f => f)
              refine wpAnyH_ready (rs := [13]) (by kernel_rfl) (by simp) ?_
              refine AllReadyH.cons (o := { dst := some 120, op := Op.call { callee := Callee.builtin Builtin.append, args := #[Operand.tmp 112, Operand.tmp 119], argTypes := #[120, 120] }, type := 120, pos := "ref.go:38", after := #[{ on := 5, ground := Ground.data }, { on := 12, ground := Ground.data }, { on := 5, ground := Ground.chain }], guard := none }) rfl (fun K hK => ?_) AllReadyH.nil
              obtain ⟨v9, W9, RUNh, RO9, T9⟩ := app_at RO6 TP.size (by have := SL.out; simp at this ⊢; omega) CP
              have TX9 := turn_fresh TP RO6 T9
              have RUN9 := Lib.hid RUNh
              clear RUNh
              refine rs_append_run (by rfl) _ _ _ (by rfl) (by rfl) (by rfl) RUN9.out ?_
              refine hK.out _ _ ?hs14 (fun hS14 => ?_)
              case hs14 => exact FF.out _ TX9
              clear hK K hS13
              refine wpAnyH_take (i := 14) (oi := { dst := some 5, op := Op.assign (Operand.tmp 120), type := 120, pos := "ref.go:38", after := #[{ on := 13, ground := Ground.data }, { on := 13, ground := Ground.chain }, { on := 0, ground := Ground.phase }, { on := 1, ground := Ground.phase }, { on := 2, ground := Ground.phase }, { on := 3, ground := Ground.phase }, { on := 4, ground := Ground.phase }, { on := 5, ground := Ground.phase }, { on := 6, ground := Ground.phase }, { on := 7, ground := Ground.phase }, { on := 8, ground := Ground.phase }, { on := 9, ground := Ground.phase }, { on := 10, ground := Ground.phase }, { on := 11, ground := Ground.phase }, { on := 12, ground := Ground.phase }, { on := 13, ground := Ground.phase }], guard := none }) (v := ?_) rfl (by kernel_rfl) (by kernel_rfl) (by kernel_rfl) (fun _ _ _ h => h) (Or.inl ⟨by rfl, ?hy15⟩) hS14 ?_
              case hy15 => (intro w hSw; (try dsimp only at hSw); go_simp; try with_reducible rfl)
              try simp only [Act.put, List.setIfInBounds_toArray, List.set_cons_zero, List.set_cons_succ]
              refine wpAnyH_done (by kernel_rfl) ?_ _
              have ST := Lib.hid (STX.out _ _ TX9 RO9)
              clear RO9 TX9 T9
              go_wp2_with fail
              go_roundg (l.length - (k + 1))
              case measure => have := G.out.1; have := G.out.2; omega
              case rel => first | exact ST.out | (rw [ek]; exact ST.out)
            refine AllReadyH.cons (o := { dst := some 119, op := Op.buildSlice 120 1 #[(0, Operand.tmp 118)], type := 120, pos := "ref.go:38", after := #[{ on := 11, ground := Ground.data }], guard := none }) rfl (fun K hK => ?_) ?_
            · skip
              go_simp
              refine hK.out _ _ ?hs16 (fun hS16 => ?_)
              case hs16 => exact FF.out _ (TE.alloc _)
              clear hK K hS11
              have CP := cell_new2 (W1.drew.alloc (.cells #[] 2)) x (p := W1.heap.size + 1) (by rw [World.size_alloc]; rfl)
              have TP := TE.alloc (.cells #[.int .i64 x] 2)
              have OP := own_turn OE ((Turn.refl (fun _ => False) (W1.drew.alloc (.cells #[] 2))).alloc (.cells #[.int .i64 x] 2)) (fun _ _ f => f)
              refine wpAnyH_ready (rs := [5]) (by kernel_rfl) (by simp) ?_
              refine AllReadyH.cons (o := { dst := some 112, op := Op.call { callee := Callee.builtin Builtin.append, args := #[Operand.tmp 107, Operand.tmp 111], argTypes := #[120, 120] }, type := 120, pos := "ref.go:38", after := #[{ on := 0, ground := Ground.data }, { on := 4, ground := Ground.data }], guard := none }) rfl (fun K hK => ?_) AllReadyH.nil
              obtain ⟨v5, V5, RUNh, RO5, T5⟩ := nums_app2 (l := r.reverse) OP TP.size (by have := SL.out; simp at this ⊢; omega) (RR.out _ TP)
              have TX5 := turn_fresh TP OP T5
              have CQ := T5.cell (by simp [Value.ownBlock]) CP
              have RUN5 := Lib.hid RUNh
              clear RUNh
              refine rs_append_run (by rfl) _ _ _ (by rfl) (by rfl) (by rfl) RUN5.out ?_
              refine hK.out _ _ ?hs17 (fun hS17 => ?_)
              case hs17 => exact FF.out _ TX5
              clear hK K hS16
              refine wpAnyH_ready (rs := [13]) (by kernel_rfl) (by simp) ?_
              refine AllReadyH.cons (o := { dst := some 120, op := Op.call { callee := Callee.builtin Builtin.append, args := #[Operand.tmp 112, Operand.tmp 119], argTypes := #[120, 120] }, type := 120, pos := "ref.go:38", after := #[{ on := 5, ground := Ground.data }, { on := 12, ground := Ground.data }, { on := 5, ground := Ground.chain }], guard := none }) rfl (fun K hK => ?_) AllReadyH.nil
              obtain ⟨v9, W9, RUNh, RO9, T9⟩ := app_at RO5 TX5.size (by have := SL.out; simp at this ⊢; omega) CQ
              have TX9 := turn_fresh TX5 RO5 T9
              have RUN9 := Lib.hid RUNh
              clear RUNh
              refine rs_append_run (by rfl) _ _ _ (by rfl) (by rfl) (by rfl) RUN9.out ?_
              refine hK.out _ _ ?hs18 (fun hS18 => ?_)
              case hs18 => exact FF.out _ TX9
              clear hK K hS17
              refine wpAnyH_take (i := 14) (oi := { dst := some 5, op := Op.assign (Operand.tmp 120), type := 120, pos := "ref.go:38", after := #[{ on := 13, ground := Ground.data }, { on := 13, ground := Ground.chain }, { on := 0, ground := Ground.phase }, { on := 1, ground := Ground.phase }, { on := 2, ground := Ground.phase }, { on := 3, ground := Ground.phase }, { on := 4, ground := Ground.phase }, { on := 5, ground := Ground.phase }, { on := 6, ground := Ground.phase }, { on := 7, ground := Ground.phase }, { on := 8, ground := Ground.phase }, { on := 9, ground := Ground.phase }, { on := 10, ground := Ground.phase }, { on := 11, ground := Ground.phase }, { on := 12, ground := Ground.phase }, { on := 13, ground := Ground.phase }], guard := none }) (v := ?_) rfl (by kernel_rfl) (by kernel_rfl) (by kernel_rfl) (fun _ _ _ h => h) (Or.inl ⟨by rfl, ?hy19⟩) hS18 ?_
              case hy19 => (intro w hSw; (try dsimp only at hSw); go_simp; try with_reducible rfl)
              try simp only [Act.put, List.setIfInBounds_toArray, List.set_cons_zero, List.set_cons_succ]
              refine wpAnyH_done (by kernel_rfl) ?_ _
              have ST := Lib.hid (STX.out _ _ TX9 RO9)
              clear RO9 TX9 T9
              go_wp2_with fail
              go_roundg (l.length - (k + 1))
              case measure => have := G.out.1; have := G.out.2; omega
              case rel => first | exact ST.out | (rw [ek]; exact ST.out)
            exact AllReadyH.nil
          refine AllReadyH.cons (o := { dst := some 119, op := Op.buildSlice 120 1 #[(0, Operand.tmp 118)], type := 120, pos := "ref.go:38", after := #[{ on := 11, ground := Ground.data }], guard := none }) rfl (fun K hK => ?_) ?_
          · skip
            go_simp
            refine hK.out _ _ ?hs20 (fun hS20 => ?_)
            case hs20 => exact FF.out _ (sT.alloc _)
            clear hK K hS0
            have CP := cell_new W1.drew x
            have TP := sT.alloc (.cells #[.int .i64 x] 2)
            refine wpAnyH_ready (rs := [0]) (by kernel_rfl) (by simp) ?_
            refine AllReadyH.cons (o := { dst := some 107, op := Op.buildSlice 120 0 #[], type := 120, pos := "ref.go:38", after := #[], guard := none }) rfl (fun K hK => ?_) AllReadyH.nil
            go_simp
            refine hK.out _ _ ?hs21 (fun hS21 => ?_)
            case hs21 => exact FF.out _ (TP.alloc _)
            clear hK K hS20
            have OE := own_empty2 TP (p := W1.heap.size + 1) (by rw [World.size_alloc]; rfl)
            have TE := TP.alloc (.cells #[] 2)
            have CE := past (o := .cells #[] 2) CP
            refine wpAnyH_ready (rs := [5]) (by kernel_rfl) (by simp) ?_
            refine AllReadyH.cons (o := { dst := some 112, op := Op.call { callee := Callee.builtin Builtin.append, args := #[Operand.tmp 107, Operand.tmp 111], argTypes := #[120, 120] }, type := 120, pos := "ref.go:38", after := #[{ on := 0, ground := Ground.data }, { on := 4, ground := Ground.data }], guard := none }) rfl (fun K hK => ?_) AllReadyH.nil
            obtain ⟨v5, V5, RUNh, RO5, T5⟩ := nums_app2 (l := r.reverse) OE TE.size (by have := SL.out; simp at this ⊢; omega) (RR.out _ TE)
            have TX5 := turn_fresh TE OE T5
            have CQ := T5.cell (by simp [Value.ownBlock]) CE
            have RUN5 := Lib.hid RUNh
            clear RUNh
            refine rs_append_run (by rfl) _ _ _ (by rfl) (by rfl) (by rfl) RUN5.out ?_
            refine hK.out _ _ ?hs22 (fun hS22 => ?_)
            case hs22 => exact FF.out _ TX5
            clear hK K hS21
            refine wpAnyH_ready (rs := [13]) (by kernel_rfl) (by simp) ?_
            refine AllReadyH.cons (o := { dst := some 120, op := Op.call { callee := Callee.builtin Builtin.append, args := #[Operand.tmp 112, Operand.tmp 119], argTypes := #[120, 120] }, type := 120, pos := "ref.go:38", after := #[{ on := 5, ground := Ground.data }, { on := 12, ground := Ground.data }, { on := 5, ground := Ground.chain }], guard := none }) rfl (fun K hK => ?_) AllReadyH.nil
            obtain ⟨v9, W9, RUNh, RO9, T9⟩ := app_at RO5 TX5.size (by have := SL.out; simp at this ⊢; omega) CQ
            have TX9 := turn_fresh TX5 RO5 T9
            have RUN9 := Lib.hid RUNh
            clear RUNh
            refine rs_append_run (by rfl) _ _ _ (by rfl) (by rfl) (by rfl) RUN9.out ?_
            refine hK.out _ _ ?hs23 (fun hS23 => ?_)
            case hs23 => exact FF.out _ TX9
            clear hK K hS22
            refine wpAnyH_take (i := 14) (oi := { dst := some 5, op := Op.assign (Operand.tmp 120), type := 120, pos := "ref.go:38", after := #[{ on := 13, ground := Ground.data }, { on := 13, ground := Ground.chain }, { on := 0, ground := Ground.phase }, { on := 1, ground := Ground.phase }, { on := 2, ground := Ground.phase }, { on := 3, ground := Ground.phase }, { on := 4, ground := Ground.phase }, { on := 5, ground := Ground.phase }, { on := 6, ground := Ground.phase }, { on := 7, ground := Ground.phase }, { on := 8, ground := Ground.phase }, { on := 9, ground := Ground.phase }, { on := 10, ground := Ground.phase }, { on := 11, ground := Ground.phase }, { on := 12, ground := Ground.phase }, { on := 13, ground := Ground.phase }], guard := none }) (v := ?_) rfl (by kernel_rfl) (by kernel_rfl) (by kernel_rfl) (fun _ _ _ h => h) (Or.inl ⟨by rfl, ?hy24⟩) hS23 ?_
            case hy24 => (intro w hSw; (try dsimp only at hSw); go_simp; try with_reducible rfl)
            try simp only [Act.put, List.setIfInBounds_toArray, List.set_cons_zero, List.set_cons_succ]
            refine wpAnyH_done (by kernel_rfl) ?_ _
            have ST := Lib.hid (STX.out _ _ TX9 RO9)
            clear RO9 TX9 T9
            go_wp2_with fail
            go_roundg (l.length - (k + 1))
            case measure => have := G.out.1; have := G.out.2; omega
            case rel => first | exact ST.out | (rw [ek]; exact ST.out)
          exact AllReadyH.nil
      have k9 : (op == 9) = false := beq_eq_false_iff_ne.2 o9
      by_cases hlt : st.length < 2
      · have kst : decide ((st.length : Int) < 2) = true := decide_eq_true (by omega)
        have HN := Lib.hid (ops_short (v := envE X) (nn := nn) (fld := fld) (pl := pl) o6 o8 o7 o9 hlt)
        clear q1 q3 hlt o6 o8 o7 o9
        have r0 := R1.out.1 0 _ rfl
        have r1 := R1.out.1 1 _ rfl
        rw [Nat.zero_add] at r1
        have f0 := R1.out.2.fz 0
        have f1 := R1.out.2.fz 1
        have TH := Lib.hid (show W1.there rb 0 2 from range_there R1.out.1 rfl R1.out.2)
        have NN := Lib.hid (STOP.out HN.out)
        have TTT := Lib.hid (show Turn (fun _ => False) w W1 from RES.out.2.trans ROW.out.2)
        go_wp2_with fail
        exact bodyPost_ret (v := .agg #[.int .i64 0, .bool false]) (res_cell (a := 4) rfl rfl (run_loadVar_mid _ rb 0 107 _ _ (World.rangeAt_setCells_same _ rb 0 [.int .i64 0, .bool false] TH.out) Try.underlying107 rfl size107)) rfl ⟨by rw [NN.out]; rfl, rv_res TTT.out HRB.out 0 false⟩
      obtain ⟨y, a, r, hsr⟩ : ∃ y a r, st = y :: a :: r := by
        match st, hlt with
        | [], h => exact absurd (by simp) h
        | [_], h => exact absurd (by simp) h
        | y :: a :: r, _ => exact ⟨y, a, r, rfl⟩
      have hln : st.length = r.length + 2 := by rw [hsr]; rfl
      obtain ⟨g, rfl⟩ := hao (by omega)
      have kst : decide ((st.length : Int) < 2) = false := decide_eq_false (by omega)
      obtain ⟨x, hx⟩ : ∃ x, x = (doOp op a y).getD 0 := ⟨_, rfl⟩
      obtain ⟨bx, hbx⟩ : ∃ bx, bx = (doOp op a y).isSome := ⟨_, rfl⟩
      have RDO := Lib.hid (fun U => rdo_any op a y U)
      rw [← hx, ← hbx] at RDO
      obtain ⟨ho, T1⟩ := ROW.out
      have how : W1.ownsRow (rb + 1) 2 1 (.slice (some ⟨g, 0, none⟩) st.length co) st.length (nums r ++ [.int .i64 a, .int .i64 y]) := by
        have h0 := own_turn ho T1 (fun _ _ f => f)
        have e : nums st = nums r ++ [.int .i64 a, .int .i64 y] := by rw [hsr, nums_cons, nums_cons, List.append_assoc]; rfl
        rw [e] at h0
        exact h0
      obtain ⟨hco, RB0⟩ := row_of how
      have ca0 : W1.cell? ⟨g, r.length, none⟩ = some (.int .i64 a) := (how.cellAt r.length (by omega)).trans (by rw [List.getElem?_append_right (by rw [nums_len]; exact Nat.le_refl _), nums_len, Nat.sub_self]; rfl)
      have cy0 : W1.cell? ⟨g, r.length + 1, none⟩ = some (.int .i64 y) := (how.cellAt (r.length + 1) (by omega)).trans (by rw [List.getElem?_append_right (by rw [nums_len]; omega), nums_len, Nat.add_sub_cancel_left]; rfl)
      have HLONG := Lib.hid (show stepCd (envE X) st ⟨op, nn, fld, pl⟩ = (doOp op a y).map (· :: r) by rw [hsr]; exact ops_long o6 o8 o7 o9)
      have HXB := Lib.hid (And.intro hx hbx)
      have RR0 := Lib.hid (show ∀ U, Turn (fun _ => False) W1 U → RowAt U (.slice (some ⟨g, 0, none⟩) r.length co) r.reverse from fun U TU => RB0.turn TU)
      have NXT2 := Lib.hid (fun (W2 : World) (TX : Turn (fun _ => False) W1 W2) (wa : World) (v' : Value) (TT : Turn (fun _ => False) W2 wa) (hs : stepCd (envE X) st ⟨op, nn, fld, pl⟩ = some (x :: r)) (h1 : wa.ownsRow (rb + 1) 2 1 v' (x :: r).length (nums (x :: r))) => NXT.out (x :: r) hs W2 wa v' (T1.trans TX) h1 (TT.more (fun _ _ f => f.elim)))
      have SL2 : r.length + 2 ≤ 100 := by have := SL.out; omega
      have sT : Turn (fun _ => False) W1 W1.drew := (Turn.refl _ W1).drewN 1
      have FF := Lib.hid (show ∀ U, Turn (fun _ => False) W1 U → U.cell? ⟨cb, 0, none⟩ = some (.int .i64 op) ∧ U.cell? ⟨g, r.length, none⟩ = some (.int .i64 a) ∧ U.cell? ⟨g, r.length + 1, none⟩ = some (.int .i64 y) ∧ Turn (fun _ => False) W1 U from fun U TU => ⟨TU.cell id q0, TU.cell id ca0, TU.cell id cy0, TU⟩)
      have TW1 := Lib.hid (show Turn (fun _ => False) w W1 from RES.out.2.trans T1)
      clear ho T1 how RB0 hx hbx ROW NXT hsr q1 q3 o6 o8 o7 o9 hlt hao
      obtain ⟨m, hm⟩ : ∃ m, m = r.length := ⟨_, rfl⟩
      obtain ⟨n2, hn2⟩ : ∃ n2, n2 = st.length := ⟨_, rfl⟩
      have HM := Lib.hid hm
      rw [← hm] at SL2 hco FF RR0 ca0 cy0 hln
      rw [← hn2] at hln kst
      have sD := FF.out _ sT
      obtain ⟨e1, e2⟩ : wrap64 ((n2 : Int) - 1) = ((m + 1 : Nat) : Int) ∧ IntKind.i64.wrap ((n2 : Int) - 1) = ((m + 1 : Nat) : Int) := wrapJ (j := 1) (show n2 = (m + 1) + 1 by omega) (by omega)
      obtain ⟨e3, e4⟩ : wrap64 ((n2 : Int) - 2) = (m : Int) ∧ IntKind.i64.wrap ((n2 : Int) - 2) = (m : Int) := wrapJ (j := 2) (show n2 = m + 2 by omega) (by omega)
      have m2 : (0 : Int) ≤ (m : Int) := Int.natCast_nonneg m
      have m3 : (m : Int) < (n2 : Int) := by omega
      have m5 : (0 : Int) ≤ (m : Int) + 1 := by omega
      have m6 : (m : Int) + 1 < (n2 : Int) := by omega
      have m4 : (m : Int) ≤ (co : Int) := Int.ofNat_le.2 hco
      rw [← hn2]
      have N2 := Lib.hid hln
      clear hn2 hm hln ca0 cy0
      go_upto_region 11 with fail
      go_cut [10] from 32 to 45 (fun v10 wx => ∃ xb, v10 = .pointer (some ⟨xb, 0, none⟩) ∧ wx.rangeAt xb 0 [.int .i64 x, .bool bx] ∧ Turn (fun _ => False) W1 wx)
      case first =>
        refine wp_region_held_drew (S := fun w' => w'.cell? ⟨cb, 0, none⟩ = some (.int .i64 op) ∧ w'.cell? ⟨g, m, none⟩ = some (.int .i64 a) ∧ w'.cell? ⟨g, m + 1, none⟩ = some (.int .i64 y) ∧ Turn (fun _ => False) W1 w') (by kernel_rfl) ?hs0 (fun hS0 => ?_)
        case hs0 => exact sD
        refine wpAnyH_take (i := 0) (oi := { dst := some 32, op := Op.fieldAddr 65 (Operand.tmp 7) 0, type := 0, pos := "ref.go:43", after := #[], guard := none }) (v := ?_) rfl (by kernel_rfl) (by kernel_rfl) (by kernel_rfl) (fun _ _ _ h => h) (Or.inl ⟨by rfl, ?hy1⟩) hS0 ?_
        case hy1 => (intro w hSw; (try dsimp only at hSw); go_simp; try with_reducible rfl)
        try simp only [Act.put, List.setIfInBounds_toArray, List.set_cons_zero, List.set_cons_succ]
        refine wpAnyH_take (i := 1) (oi := { dst := some 33, op := Op.load 3 (Operand.tmp 32), type := 3, pos := "ref.go:43", after := #[{ on := 0, ground := Ground.data }], guard := none }) (v := ?_) rfl (by kernel_rfl) (by kernel_rfl) (by kernel_rfl) (fun _ _ _ h => h) (Or.inl ⟨by rfl, ?hy2⟩) hS0 ?_
        case hy2 => (intro w hSw; (try dsimp only at hSw); go_simp; try with_reducible rfl)
        try simp only [Act.put, List.setIfInBounds_toArray, List.set_cons_zero, List.set_cons_succ]
        refine wpAnyH_take (i := 2) (oi := { dst := some 34, op := Op.move (Operand.tmp 5), type := 120, pos := "ref.go:43", after := #[], guard := none }) (v := ?_) rfl (by kernel_rfl) (by kernel_rfl) (by kernel_rfl) (fun _ _ _ h => h) (Or.inl ⟨by rfl, ?hy3⟩) hS0 ?_
        case hy3 => (intro w hSw; (try dsimp only at hSw); go_simp; try with_reducible rfl)
        try simp only [Act.put, List.setIfInBounds_toArray, List.set_cons_zero, List.set_cons_succ]
        refine wpAnyH_take (i := 3) (oi := { dst := some 35, op := Op.move (Operand.tmp 9), type := 3, pos := "ref.go:43", after := #[], guard := none }) (v := ?_) rfl (by kernel_rfl) (by kernel_rfl) (by kernel_rfl) (fun _ _ _ h => h) (Or.inl ⟨by rfl, ?hy4⟩) hS0 ?_
        case hy4 => (intro w hSw; (try dsimp only at hSw); go_simp; try with_reducible rfl)
        try simp only [Act.put, List.setIfInBounds_toArray, List.set_cons_zero, List.set_cons_succ]
        refine wpAnyH_take (i := 4) (oi := { dst := some 36, op := Op.binOp BinOp.sub 3 (Operand.tmp 35) (Operand.const (Value.int IntKind.i64 2)) 3, type := 3, pos := "ref.go:43", after := #[{ on := 3, ground := Ground.data }], guard := none }) (v := ?_) rfl (by kernel_rfl) (by kernel_rfl) (by kernel_rfl) (fun _ _ _ h => h) (Or.inl ⟨by rfl, ?hy5⟩) hS0 ?_
        case hy5 => (intro w hSw; (try dsimp only at hSw); go_simp; try with_reducible rfl)
        try simp only [Act.put, List.setIfInBounds_toArray, List.set_cons_zero, List.set_cons_succ]
        refine wpAnyH_take (i := 5) (oi := { dst := some 37, op := Op.indexAddr 120 (Operand.tmp 34) (Operand.tmp 36), type := 0, pos := "ref.go:43", after := #[{ on := 2, ground := Ground.data }, { on := 4, ground := Ground.data }], guard := none }) (v := ?_) rfl (by kernel_rfl) (by kernel_rfl) (by kernel_rfl) (fun _ _ _ h => h) (Or.inl ⟨by rfl, ?hy6⟩) hS0 ?_
        case hy6 => (intro w hSw; (try dsimp only at hSw); go_simp; try with_reducible rfl)
        try simp only [Act.put, List.setIfInBounds_toArray, List.set_cons_zero, List.set_cons_succ]
        refine wpAnyH_take (i := 6) (oi := { dst := some 38, op := Op.load 2 (Operand.tmp 37), type := 2, pos := "ref.go:43", after := #[{ on := 5, ground := Ground.data }], guard := none }) (v := ?_) rfl (by kernel_rfl) (by kernel_rfl) (by kernel_rfl) (fun _ _ _ h => h) (Or.inl ⟨by rfl, ?hy7⟩) hS0 ?_
        case hy7 => (intro w hSw; (try dsimp only at hSw); go_simp; try with_reducible rfl)
        try simp only [Act.put, List.setIfInBounds_toArray, List.set_cons_zero, List.set_cons_succ]
        refine wpAnyH_take (i := 7) (oi := { dst := some 39, op := Op.move (Operand.tmp 5), type := 120, pos := "ref.go:43", after := #[], guard := none }) (v := ?_) rfl (by kernel_rfl) (by kernel_rfl) (by kernel_rfl) (fun _ _ _ h => h) (Or.inl ⟨by rfl, ?hy8⟩) hS0 ?_
        case hy8 => (intro w hSw; (try dsimp only at hSw); go_simp; try with_reducible rfl)
        try simp only [Act.put, List.setIfInBounds_toArray, List.set_cons_zero, List.set_cons_succ]
        refine wpAnyH_take (i := 8) (oi := { dst := some 40, op := Op.move (Operand.tmp 9), type := 3, pos := "ref.go:43", after := #[], guard := none }) (v := ?_) rfl (by kernel_rfl) (by kernel_rfl) (by kernel_rfl) (fun _ _ _ h => h) (Or.inl ⟨by rfl, ?hy9⟩) hS0 ?_
        case hy9 => (intro w hSw; (try dsimp only at hSw); go_simp; try with_reducible rfl)
        try simp only [Act.put, List.setIfInBounds_toArray, List.set_cons_zero, List.set_cons_succ]
        refine wpAnyH_take (i := 9) (oi := { dst := some 41, op := Op.binOp BinOp.sub 3 (Operand.tmp 40) (Operand.const (Value.int IntKind.i64 1)) 3, type := 3, pos := "ref.go:43", after := #[{ on := 8, ground := Ground.data }], guard := none }) (v := ?_) rfl (by kernel_rfl) (by kernel_rfl) (by kernel_rfl) (fun _ _ _ h => h) (Or.inl ⟨by rfl, ?hy10⟩) hS0 ?_
        case hy10 => (intro w hSw; (try dsimp only at hSw); go_simp; try with_reducible rfl)
        try simp only [Act.put, List.setIfInBounds_toArray, List.set_cons_zero, List.set_cons_succ]
        refine wpAnyH_take (i := 10) (oi := { dst := some 42, op := Op.indexAddr 120 (Operand.tmp 39) (Operand.tmp 41), type := 0, pos := "ref.go:43", after := #[{ on := 7, ground := Ground.data }, { on := 9, ground := Ground.data }], guard := none }) (v := ?_) rfl (by kernel_rfl) (by kernel_rfl) (by kernel_rfl) (fun _ _ _ h => h) (Or.inl ⟨by rfl, ?hy11⟩) hS0 ?_
        case hy11 => (intro w hSw; (try dsimp only at hSw); go_simp; try with_reducible rfl)
        try simp only [Act.put, List.setIfInBounds_toArray, List.set_cons_zero, List.set_cons_succ]
        refine wpAnyH_take (i := 11) (oi := { dst := some 43, op := Op.load 2 (Operand.tmp 42), type := 2, pos := "ref.go:43", after := #[{ on := 10, ground := Ground.data }], guard := none }) (v := ?_) rfl (by kernel_rfl) (by kernel_rfl) (by kernel_rfl) (fun _ _ _ h => h) (Or.inl ⟨by rfl, ?hy12⟩) hS0 ?_
        case hy12 => (intro w hSw; (try dsimp only at hSw); go_simp; try with_reducible rfl)
        try simp only [Act.put, List.setIfInBounds_toArray, List.set_cons_zero, List.set_cons_succ]
        refine wpAnyH_ready (rs := [12, 13]) (by kernel_rfl) (by simp) ?_
        refine AllReadyH.cons (o := { dst := some 44, op := Op.call { callee := Callee.value (Operand.func 72), args := #[Operand.tmp 33, Operand.tmp 38, Operand.tmp 43], argTypes := #[3, 2, 2] }, type := 107, pos := "ref.go:43", after := #[{ on := 1, ground := Ground.data }, { on := 6, ground := Ground.data }, { on := 11, ground := Ground.data }], guard := none }) rfl (fun K hK => ?_) ?_
        · skip
          go_simp
          with_reducible refine (RDO.out _).mono ?_
          rintro en Wc ⟨rfl, Tc⟩
          go_simp
          refine hK.out _ _ ?hs13 (fun hS13 => ?_)
          case hs13 => exact FF.out _ (sT.trans Tc)
          clear hK K hS0
          refine wpAnyH_ready (rs := [13]) (by kernel_rfl) (by simp) ?_
          refine AllReadyH.cons (o := { dst := some 10, op := Op.alloc 107, type := 0, pos := "ref.go:43", after := #[], guard := none }) rfl (fun K hK => ?_) AllReadyH.nil
          go_simp
          refine hK.out _ _ ?hs14 (fun hS14 => ?_)
          case hs14 => exact FF.out _ ((sT.trans Tc).alloc _)
          clear hK K hS13
          have TC := sT.trans Tc
          have X0 := range_new Wc [.int .i64 0, .bool false] 107
          have B0 := Blk.new Wc [.int .i64 0, .bool false] 107
          have TB := TC.alloc (.cells #[.int .i64 0, .bool false] 107)
          have GE := TC.size
          generalize hxb : Wc.heap.size = xb at *
          generalize Wc.alloc (.cells #[.int .i64 0, .bool false] 107) = WB at *
          have x0 := X0 0 _ rfl
          have x1 := X0 1 _ rfl
          rw [Nat.zero_add] at x1
          have f0 := B0.fz 0
          have f1 := B0.fz 1
          have TX := Turn.setCells [.int .i64 x, .bool bx] 0 TB (.inr GE)
          have RX := World.rangeAt_setCells_same _ xb 0 [.int .i64 x, .bool bx] (range_there X0 rfl B0)
          refine wpAnyH_ready (rs := [14]) (by kernel_rfl) (by simp) ?_
          refine AllReadyH.cons (o := { dst := none, op := Op.store 107 (Operand.tmp 10) (Operand.tmp 44), type := 0, pos := "ref.go:43", after := #[{ on := 13, ground := Ground.data }, { on := 12, ground := Ground.data }, { on := 12, ground := Ground.chain }, { on := 0, ground := Ground.phase }, { on := 1, ground := Ground.phase }, { on := 2, ground := Ground.phase }, { on := 3, ground := Ground.phase }, { on := 4, ground := Ground.phase }, { on := 5, ground := Ground.phase }, { on := 6, ground := Ground.phase }, { on := 7, ground := Ground.phase }, { on := 8, ground := Ground.phase }, { on := 9, ground := Ground.phase }, { on := 10, ground := Ground.phase }, { on := 11, ground := Ground.phase }, { on := 12, ground := Ground.phase }, { on := 13, ground := Ground.phase }], guard := none }) rfl (fun K hK => ?_) AllReadyH.nil
          go_simp
          refine hK.out _ _ ?hs15 (fun hS15 => ?_)
          case hs15 => exact FF.out _ TX
          clear hK K hS14
          refine wpAnyH_done (by kernel_rfl) ?_ _
          clear sD
          go_wp2_with fail
          go_meet
          case rel => exact ⟨xb, rfl, RX, TX⟩
        refine AllReadyH.cons (o := { dst := some 10, op := Op.alloc 107, type := 0, pos := "ref.go:43", after := #[], guard := none }) rfl (fun K hK => ?_) ?_
        · skip
          go_simp
          refine hK.out _ _ ?hs16 (fun hS16 => ?_)
          case hs16 => exact FF.out _ (sT.alloc _)
          clear hK K hS0
          have X0 := range_new W1.drew [.int .i64 0, .bool false] 107
          have B0 := Blk.new W1.drew [.int .i64 0, .bool false] 107
          have TB := sT.alloc (.cells #[.int .i64 0, .bool false] 107)
          refine wpAnyH_ready (rs := [12]) (by kernel_rfl) (by simp) ?_
          refine AllReadyH.cons (o := { dst := some 44, op := Op.call { callee := Callee.value (Operand.func 72), args := #[Operand.tmp 33, Operand.tmp 38, Operand.tmp 43], argTypes := #[3, 2, 2] }, type := 107, pos := "ref.go:43", after := #[{ on := 1, ground := Ground.data }, { on := 6, ground := Ground.data }, { on := 11, ground := Ground.data }], guard := none }) rfl (fun K hK => ?_) AllReadyH.nil
          go_simp
          with_reducible refine (RDO.out _).mono ?_
          rintro en Wc ⟨rfl, Tc⟩
          go_simp
          refine hK.out _ _ ?hs17 (fun hS17 => ?_)
          case hs17 => exact FF.out _ (TB.trans Tc)
          clear hK K hS16
          have TC := TB.trans Tc
          have X0 : Wc.rangeAt W1.heap.size 0 [.int .i64 0, .bool false] := range_turn X0 Tc id
          have B0 : Blk Wc W1.heap.size 107 := B0.turn Tc id
          clear TB
          have TB := TC
          generalize hxb : W1.heap.size = xb at *
          have GE := Nat.le_of_eq hxb
          have x0 := X0 0 _ rfl
          have x1 := X0 1 _ rfl
          rw [Nat.zero_add] at x1
          have f0 := B0.fz 0
          have f1 := B0.fz 1
          have TX := Turn.setCells [.int .i64 x, .bool bx] 0 TB (.inr GE)
          have RX := World.rangeAt_setCells_same _ xb 0 [.int .i64 x, .bool bx] (range_there X0 rfl B0)
          refine wpAnyH_ready (rs := [14]) (by kernel_rfl) (by simp) ?_
          refine AllReadyH.cons (o := { dst := none, op := Op.store 107 (Operand.tmp 10) (Operand.tmp 44), type := 0, pos := "ref.go:43", after := #[{ on := 13, ground := Ground.data }, { on := 12, ground := Ground.data }, { on := 12, ground := Ground.chain }, { on := 0, ground := Ground.phase }, { on := 1, ground := Ground.phase }, { on := 2, ground := Ground.phase }, { on := 3, ground := Ground.phase }, { on := 4, ground := Ground.phase }, { on := 5, ground := Ground.phase }, { on := 6, ground := Ground.phase }, { on := 7, ground := Ground.phase }, { on := 8, ground := Ground.phase }, { on := 9, ground := Ground.phase }, { on := 10, ground := Ground.phase }, { on := 11, ground := Ground.phase }, { on := 12, ground := Ground.phase }, { on := 13, ground := Ground.phase }], guard := none }) rfl (fun K hK => ?_) AllReadyH.nil
          go_simp
          refine hK.out _ _ ?hs18 (fun hS18 => ?_)
          case hs18 => exact FF.out _ TX
          clear hK K hS17
          refine wpAnyH_done (by kernel_rfl) ?_ _
          clear sD
          go_wp2_with fail
          go_meet
          case rel => exact ⟨xb, rfl, RX, TX⟩
        exact AllReadyH.nil
      case rest =>
      obtain ⟨xb, rfl, RX, TX⟩ := hcut
      rename World => W2
      have n0 := RX 0 _ rfl
      have n1 := RX 1 _ rfl
      rw [Nat.zero_add] at n1
      have R1 := Lib.hid (show W2.rangeAt rb 0 [.int .i64 0, .bool false] ∧ Blk W2 rb 107 from ⟨range_turn R1.out.1 TX id, R1.out.2.turn TX id⟩)
      clear FF sD sT q0 RDO
      cases bx with
      | false =>
        have HN := Lib.hid (show stepCd (envE X) st ⟨op, nn, fld, pl⟩ = none by
          rw [HLONG.out]
          cases hd : doOp op a y with
          | none => rfl
          | some z => have := HXB.out.2; rw [hd] at this; simp at this)
        have r0 := R1.out.1 0 _ rfl
        have r1 := R1.out.1 1 _ rfl
        rw [Nat.zero_add] at r1
        have f0 := R1.out.2.fz 0
        have f1 := R1.out.2.fz 1
        have TH := Lib.hid (show W2.there rb 0 2 from range_there R1.out.1 rfl R1.out.2)
        have NN := Lib.hid (STOP.out HN.out)
        have TTT := Lib.hid (show Turn (fun _ => False) w W2 from TW1.out.trans TX)
        go_wp2_with fail
        exact bodyPost_ret (v := .agg #[.int .i64 0, .bool false]) (res_cell (a := 4) rfl rfl (run_loadVar_mid _ rb 0 107 _ _ (World.rangeAt_setCells_same _ rb 0 [.int .i64 0, .bool false] TH.out) Try.underlying107 rfl size107)) rfl ⟨by rw [NN.out]; rfl, rv_res TTT.out HRB.out 0 false⟩
      | true =>
        have HS := Lib.hid (show stepCd (envE X) st ⟨op, nn, fld, pl⟩ = some (x :: r) by
          rw [HLONG.out]
          cases hd : doOp op a y with
          | none => have := HXB.out.2; rw [hd] at this; simp at this
          | some z => rw [HXB.out.1, hd]; rfl)
        have RR := Lib.hid (show ∀ U, Turn (fun _ => False) W2 U → RowAt U (.slice (some ⟨g, 0, none⟩) m co) r.reverse from fun U TU => RR0.out U (TX.trans TU))
        have SZ := Lib.hid (show rb + 1 ≤ W2.heap.size from Nat.le_trans SZ.out TX.size)
        have SL := Lib.hid (show (y :: a :: r).length ≤ 100 by have := HM.out; simp; omega)
        have STX := Lib.hid (show ∀ (wa : World) (v' : Value), Turn (fun _ => False) W2 wa → wa.ownsRow W2.heap.size 2 1 v' (0 + r.reverse.length + 1) ([] ++ intsV r.reverse ++ [.int .i64 x]) → _ from fun wa v' TT h1 => NXT2.out W2 TX wa v' TT HS.out (by
          have e : 0 + r.reverse.length + 1 = (x :: r).length := by simp
          have e2 : [] ++ intsV r.reverse ++ [Value.int .i64 x] = nums (x :: r) := by rw [nums_cons]; simp [nums, intsV]
          rw [e, e2] at h1
          exact own_base h1 SZ.out))
        have sT : Turn (fun _ => False) W2 W2.drew := (Turn.refl _ W2).drewN 1
        have FF := Lib.hid (show ∀ U, Turn (fun _ => False) W2 U → U.cell? ⟨xb, 0, none⟩ = some (.int .i64 x) ∧ Turn (fun _ => False) W2 U from fun U TU => ⟨TU.cell id n0, TU⟩)
        have sD := FF.out _ sT
        clear RX NXT2
        go_upto_region 14 with fail
        refine wp_region_held_drew (S := fun w' => w'.cell? ⟨xb, 0, none⟩ = some (.int .i64 x) ∧ Turn (fun _ => False) W2 w') (by kernel_rfl) ?hs0 (fun hS0 => ?_)
        case hs0 => exact sD
        refine wpAnyH_take (i := 1) (oi := { dst := some 50, op := Op.move (Operand.tmp 5), type := 120, pos := "ref.go:47", after := #[], guard := none }) (v := ?_) rfl (by kernel_rfl) (by kernel_rfl) (by kernel_rfl) (fun _ _ _ h => h) (Or.inl ⟨by rfl, ?hy1⟩) hS0 ?_
        case hy1 => (intro w hSw; (try dsimp only at hSw); go_simp; try with_reducible rfl)
        try simp only [Act.put, List.setIfInBounds_toArray, List.set_cons_zero, List.set_cons_succ]
        refine wpAnyH_take (i := 2) (oi := { dst := some 51, op := Op.move (Operand.tmp 9), type := 3, pos := "ref.go:47", after := #[], guard := none }) (v := ?_) rfl (by kernel_rfl) (by kernel_rfl) (by kernel_rfl) (fun _ _ _ h => h) (Or.inl ⟨by rfl, ?hy2⟩) hS0 ?_
        case hy2 => (intro w hSw; (try dsimp only at hSw); go_simp; try with_reducible rfl)
        try simp only [Act.put, List.setIfInBounds_toArray, List.set_cons_zero, List.set_cons_succ]
        refine wpAnyH_take (i := 3) (oi := { dst := some 52, op := Op.binOp BinOp.sub 3 (Operand.tmp 51) (Operand.const (Value.int IntKind.i64 2)) 3, type := 3, pos := "ref.go:47", after := #[{ on := 2, ground := Ground.data }], guard := none }) (v := ?_) rfl (by kernel_rfl) (by kernel_rfl) (by kernel_rfl) (fun _ _ _ h => h) (Or.inl ⟨by rfl, ?hy3⟩) hS0 ?_
        case hy3 => (intro w hSw; (try dsimp only at hSw); go_simp; try with_reducible rfl)
        try simp only [Act.put, List.setIfInBounds_toArray, List.set_cons_zero, List.set_cons_succ]
        refine wpAnyH_take (i := 4) (oi := { dst := some 53, op := Op.slice 120 (Operand.tmp 50) none (some (Operand.tmp 52)) none, type := 120, pos := "ref.go:47", after := #[{ on := 1, ground := Ground.data }, { on := 3, ground := Ground.data }], guard := none }) (v := ?_) rfl (by kernel_rfl) (by kernel_rfl) (by kernel_rfl) (fun _ _ _ h => h) (Or.inl ⟨by rfl, ?hy4⟩) hS0 ?_
        case hy4 => (intro w hSw; (try dsimp only at hSw); go_simp; try with_reducible rfl)
        try simp only [Act.put, List.setIfInBounds_toArray, List.set_cons_zero, List.set_cons_succ]
        refine wpAnyH_take (i := 6) (oi := { dst := some 55, op := Op.fieldAddr 107 (Operand.tmp 10) 0, type := 0, pos := "ref.go:47", after := #[], guard := none }) (v := ?_) rfl (by kernel_rfl) (by kernel_rfl) (by kernel_rfl) (fun _ _ _ h => h) (Or.inl ⟨by rfl, ?hy5⟩) hS0 ?_
        case hy5 => (intro w hSw; (try dsimp only at hSw); go_simp; try with_reducible rfl)
        try simp only [Act.put, List.setIfInBounds_toArray, List.set_cons_zero, List.set_cons_succ]
        refine wpAnyH_take (i := 7) (oi := { dst := some 56, op := Op.load 2 (Operand.tmp 55), type := 2, pos := "ref.go:47", after := #[{ on := 6, ground := Ground.data }], guard := none }) (v := ?_) rfl (by kernel_rfl) (by kernel_rfl) (by kernel_rfl) (fun _ _ _ h => h) (Or.inl ⟨by rfl, ?hy6⟩) hS0 ?_
        case hy6 => (intro w hSw; (try dsimp only at hSw); go_simp; try with_reducible rfl)
        try simp only [Act.put, List.setIfInBounds_toArray, List.set_cons_zero, List.set_cons_succ]
        refine wpAnyH_ready (rs := [0, 8]) (by kernel_rfl) (by simp) ?_
        refine AllReadyH.cons (o := { dst := some 49, op := Op.buildSlice 120 0 #[], type := 120, pos := "ref.go:47", after := #[], guard := none }) rfl (fun K hK => ?_) ?_
        · skip
          go_simp
          refine hK.out _ _ ?hs7 (fun hS7 => ?_)
          case hs7 => exact FF.out _ (sT.alloc _)
          clear hK K hS0
          have OE := own_empty sT
          have TE := sT.alloc (.cells #[] 2)
          refine wpAnyH_ready (rs := [5, 8]) (by kernel_rfl) (by simp) ?_
          refine AllReadyH.cons (o := { dst := some 54, op := Op.call { callee := Callee.builtin Builtin.append, args := #[Operand.tmp 49, Operand.tmp 53], argTypes := #[120, 120] }, type := 120, pos := "ref.go:47", after := #[{ on := 0, ground := Ground.data }, { on := 4, ground := Ground.data }], guard := none }) rfl (fun K hK => ?_) ?_
          · skip
            obtain ⟨v5, V5, RUNh, RO5, T5⟩ := nums_app2 (l := r.reverse) OE TE.size (by have := SL.out; simp at this ⊢; omega) (RR.out _ TE)
            have TX5 := turn_fresh TE OE T5
            have RUN5 := Lib.hid RUNh
            clear RUNh
            refine rs_append_run (by rfl) _ _ _ (by rfl) (by rfl) (by rfl) RUN5.out ?_
            refine hK.out _ _ ?hs8 (fun hS8 => ?_)
            case hs8 => exact FF.out _ TX5
            clear hK K hS7
            refine wpAnyH_ready (rs := [8]) (by kernel_rfl) (by simp) ?_
            refine AllReadyH.cons (o := { dst := some 57, op := Op.buildSlice 120 1 #[(0, Operand.tmp 56)], type := 120, pos := "ref.go:47", after := #[{ on := 7, ground := Ground.data }], guard := none }) rfl (fun K hK => ?_) AllReadyH.nil
            go_simp
            refine hK.out _ _ ?hs9 (fun hS9 => ?_)
            case hs9 => exact FF.out _ (TX5.alloc _)
            clear hK K hS8
            have CP := cell_new V5 x
            have TP := TX5.alloc (.cells #[.int .i64 x] 2)
            have RO6 := own_turn RO5 ((Turn.refl (fun _ => False) V5).alloc (.cells #[.int .i64 x] 2)) (fun _ _ f => f)
            refine wpAnyH_ready (rs := [9]) (by kernel_rfl) (by simp) ?_
            refine AllReadyH.cons (o := { dst := some 58, op := Op.call { callee := Callee.builtin Builtin.append, args := #[Operand.tmp 54, Operand.tmp 57], argTypes := #[120, 120] }, type := 120, pos := "ref.go:47", after := #[{ on := 5, ground := Ground.data }, { on := 8, ground := Ground.data }, { on := 5, ground := Ground.chain }], guard := none }) rfl (fun K hK => ?_) AllReadyH.nil
            obtain ⟨v9, W9, RUNh, RO9, T9⟩ := app_at RO6 TP.size (by have := SL.out; simp at this ⊢; omega) CP
            have TX9 := turn_fresh TP RO6 T9
            have RUN9 := Lib.hid RUNh
            clear RUNh
            refine rs_append_run (by rfl) _ _ _ (by rfl) (by rfl) (by rfl) RUN9.out ?_
            refine hK.out _ _ ?hs10 (fun hS10 => ?_)
            case hs10 => exact FF.out _ TX9
            clear hK K hS9
            refine wpAnyH_take (i := 10) (oi := { dst := some 5, op := Op.assign (Operand.tmp 58), type := 120, pos := "ref.go:47", after := #[{ on := 9, ground := Ground.data }, { on := 9, ground := Ground.chain }, { on := 0, ground := Ground.phase }, { on := 1, ground := Ground.phase }, { on := 2, ground := Ground.phase }, { on := 3, ground := Ground.phase }, { on := 4, ground := Ground.phase }, { on := 5, ground := Ground.phase }, { on := 6, ground := Ground.phase }, { on := 7, ground := Ground.phase }, { on := 8, ground := Ground.phase }, { on := 9, ground := Ground.phase }], guard := none }) (v := ?_) rfl (by kernel_rfl) (by kernel_rfl) (by kernel_rfl) (fun _ _ _ h => h) (Or.inl ⟨by rfl, ?hy11⟩) hS10 ?_
            case hy11 => (intro w hSw; (try dsimp only at hSw); go_simp; try with_reducible rfl)
            try simp only [Act.put, List.setIfInBounds_toArray, List.set_cons_zero, List.set_cons_succ]
            refine wpAnyH_done (by kernel_rfl) ?_ _
            have ST := Lib.hid (STX.out _ _ TX9 RO9)
            clear RO9 TX9 T9
            go_wp2_with fail
            go_roundg (l.length - (k + 1))
            case measure => have := G.out.1; have := G.out.2; omega
            case rel => first | exact ST.out | (rw [ek]; exact ST.out)
          refine AllReadyH.cons (o := { dst := some 57, op := Op.buildSlice 120 1 #[(0, Operand.tmp 56)], type := 120, pos := "ref.go:47", after := #[{ on := 7, ground := Ground.data }], guard := none }) rfl (fun K hK => ?_) ?_
          · skip
            go_simp
            refine hK.out _ _ ?hs12 (fun hS12 => ?_)
            case hs12 => exact FF.out _ (TE.alloc _)
            clear hK K hS7
            have CP := cell_new2 (W2.drew.alloc (.cells #[] 2)) x (p := W2.heap.size + 1) (by rw [World.size_alloc]; rfl)
            have TP := TE.alloc (.cells #[.int .i64 x] 2)
            have OP := own_turn OE ((Turn.refl (fun _ => False) (W2.drew.alloc (.cells #[] 2))).alloc (.cells #[.int .i64 x] 2)) (fun _ _ f => f)
            refine wpAnyH_ready (rs := [5]) (by kernel_rfl) (by simp) ?_
            refine AllReadyH.cons (o := { dst := some 54, op := Op.call { callee := Callee.builtin Builtin.append, args := #[Operand.tmp 49, Operand.tmp 53], argTypes := #[120, 120] }, type := 120, pos := "ref.go:47", after := #[{ on := 0, ground := Ground.data }, { on := 4, ground := Ground.data }], guard := none }) rfl (fun K hK => ?_) AllReadyH.nil
            obtain ⟨v5, V5, RUNh, RO5, T5⟩ := nums_app2 (l := r.reverse) OP TP.size (by have := SL.out; simp at this ⊢; omega) (RR.out _ TP)
            have TX5 := turn_fresh TP OP T5
            have CQ := T5.cell (by simp [Value.ownBlock]) CP
            have RUN5 := Lib.hid RUNh
            clear RUNh
            refine rs_append_run (by rfl) _ _ _ (by rfl) (by rfl) (by rfl) RUN5.out ?_
            refine hK.out _ _ ?hs13 (fun hS13 => ?_)
            case hs13 => exact FF.out _ TX5
            clear hK K hS12
            refine wpAnyH_ready (rs := [9]) (by kernel_rfl) (by simp) ?_
            refine AllReadyH.cons (o := { dst := some 58, op := Op.call { callee := Callee.builtin Builtin.append, args := #[Operand.tmp 54, Operand.tmp 57], argTypes := #[120, 120] }, type := 120, pos := "ref.go:47", after := #[{ on := 5, ground := Ground.data }, { on := 8, ground := Ground.data }, { on := 5, ground := Ground.chain }], guard := none }) rfl (fun K hK => ?_) AllReadyH.nil
            obtain ⟨v9, W9, RUNh, RO9, T9⟩ := app_at RO5 TX5.size (by have := SL.out; simp at this ⊢; omega) CQ
            have TX9 := turn_fresh TX5 RO5 T9
            have RUN9 := Lib.hid RUNh
            clear RUNh
            refine rs_append_run (by rfl) _ _ _ (by rfl) (by rfl) (by rfl) RUN9.out ?_
            refine hK.out _ _ ?hs14 (fun hS14 => ?_)
            case hs14 => exact FF.out _ TX9
            clear hK K hS13
            refine wpAnyH_take (i := 10) (oi := { dst := some 5, op := Op.assign (Operand.tmp 58), type := 120, pos := "ref.go:47", after := #[{ on := 9, ground := Ground.data }, { on := 9, ground := Ground.chain }, { on := 0, ground := Ground.phase }, { on := 1, ground := Ground.phase }, { on := 2, ground := Ground.phase }, { on := 3, ground := Ground.phase }, { on := 4, ground := Ground.phase }, { on := 5, ground := Ground.phase }, { on := 6, ground := Ground.phase }, { on := 7, ground := Ground.phase }, { on := 8, ground := Ground.phase }, { on := 9, ground := Ground.phase }], guard := none }) (v := ?_) rfl (by kernel_rfl) (by kernel_rfl) (by kernel_rfl) (fun _ _ _ h => h) (Or.inl ⟨by rfl, ?hy15⟩) hS14 ?_
            case hy15 => (intro w hSw; (try dsimp only at hSw); go_simp; try with_reducible rfl)
            try simp only [Act.put, List.setIfInBounds_toArray, List.set_cons_zero, List.set_cons_succ]
            refine wpAnyH_done (by kernel_rfl) ?_ _
            have ST := Lib.hid (STX.out _ _ TX9 RO9)
            clear RO9 TX9 T9
            go_wp2_with fail
            go_roundg (l.length - (k + 1))
            case measure => have := G.out.1; have := G.out.2; omega
            case rel => first | exact ST.out | (rw [ek]; exact ST.out)
          exact AllReadyH.nil
        refine AllReadyH.cons (o := { dst := some 57, op := Op.buildSlice 120 1 #[(0, Operand.tmp 56)], type := 120, pos := "ref.go:47", after := #[{ on := 7, ground := Ground.data }], guard := none }) rfl (fun K hK => ?_) ?_
        · skip
          go_simp
          refine hK.out _ _ ?hs16 (fun hS16 => ?_)
          case hs16 => exact FF.out _ (sT.alloc _)
          clear hK K hS0
          have CP := cell_new W2.drew x
          have TP := sT.alloc (.cells #[.int .i64 x] 2)
          refine wpAnyH_ready (rs := [0]) (by kernel_rfl) (by simp) ?_
          refine AllReadyH.cons (o := { dst := some 49, op := Op.buildSlice 120 0 #[], type := 120, pos := "ref.go:47", after := #[], guard := none }) rfl (fun K hK => ?_) AllReadyH.nil
          go_simp
          refine hK.out _ _ ?hs17 (fun hS17 => ?_)
          case hs17 => exact FF.out _ (TP.alloc _)
          clear hK K hS16
          have OE := own_empty2 TP (p := W2.heap.size + 1) (by rw [World.size_alloc]; rfl)
          have TE := TP.alloc (.cells #[] 2)
          have CE := past (o := .cells #[] 2) CP
          refine wpAnyH_ready (rs := [5]) (by kernel_rfl) (by simp) ?_
          refine AllReadyH.cons (o := { dst := some 54, op := Op.call { callee := Callee.builtin Builtin.append, args := #[Operand.tmp 49, Operand.tmp 53], argTypes := #[120, 120] }, type := 120, pos := "ref.go:47", after := #[{ on := 0, ground := Ground.data }, { on := 4, ground := Ground.data }], guard := none }) rfl (fun K hK => ?_) AllReadyH.nil
          obtain ⟨v5, V5, RUNh, RO5, T5⟩ := nums_app2 (l := r.reverse) OE TE.size (by have := SL.out; simp at this ⊢; omega) (RR.out _ TE)
          have TX5 := turn_fresh TE OE T5
          have CQ := T5.cell (by simp [Value.ownBlock]) CE
          have RUN5 := Lib.hid RUNh
          clear RUNh
          refine rs_append_run (by rfl) _ _ _ (by rfl) (by rfl) (by rfl) RUN5.out ?_
          refine hK.out _ _ ?hs18 (fun hS18 => ?_)
          case hs18 => exact FF.out _ TX5
          clear hK K hS17
          refine wpAnyH_ready (rs := [9]) (by kernel_rfl) (by simp) ?_
          refine AllReadyH.cons (o := { dst := some 58, op := Op.call { callee := Callee.builtin Builtin.append, args := #[Operand.tmp 54, Operand.tmp 57], argTypes := #[120, 120] }, type := 120, pos := "ref.go:47", after := #[{ on := 5, ground := Ground.data }, { on := 8, ground := Ground.data }, { on := 5, ground := Ground.chain }], guard := none }) rfl (fun K hK => ?_) AllReadyH.nil
          obtain ⟨v9, W9, RUNh, RO9, T9⟩ := app_at RO5 TX5.size (by have := SL.out; simp at this ⊢; omega) CQ
          have TX9 := turn_fresh TX5 RO5 T9
          have RUN9 := Lib.hid RUNh
          clear RUNh
          refine rs_append_run (by rfl) _ _ _ (by rfl) (by rfl) (by rfl) RUN9.out ?_
          refine hK.out _ _ ?hs19 (fun hS19 => ?_)
          case hs19 => exact FF.out _ TX9
          clear hK K hS18
          refine wpAnyH_take (i := 10) (oi := { dst := some 5, op := Op.assign (Operand.tmp 58), type := 120, pos := "ref.go:47", after := #[{ on := 9, ground := Ground.data }, { on := 9, ground := Ground.chain }, { on := 0, ground := Ground.phase }, { on := 1, ground := Ground.phase }, { on := 2, ground := Ground.phase }, { on := 3, ground := Ground.phase }, { on := 4, ground := Ground.phase }, { on := 5, ground := Ground.phase }, { on := 6, ground := Ground.phase }, { on := 7, ground := Ground.phase }, { on := 8, ground := Ground.phase }, { on := 9, ground := Ground.phase }], guard := none }) (v := ?_) rfl (by kernel_rfl) (by kernel_rfl) (by kernel_rfl) (fun _ _ _ h => h) (Or.inl ⟨by rfl, ?hy20⟩) hS19 ?_
          case hy20 => (intro w hSw; (try dsimp only at hSw); go_simp; try with_reducible rfl)
          try simp only [Act.put, List.setIfInBounds_toArray, List.set_cons_zero, List.set_cons_succ]
          refine wpAnyH_done (by kernel_rfl) ?_ _
          have ST := Lib.hid (STX.out _ _ TX9 RO9)
          clear RO9 TX9 T9
          go_wp2_with fail
          go_roundg (l.length - (k + 1))
          case measure => have := G.out.1; have := G.out.2; omega
          case rel => first | exact ST.out | (rw [ek]; exact ST.out)
        exact AllReadyH.nil
    · obtain rfl : k = l.length := Nat.le_antisymm hk (Nat.not_lt.1 hkl)
      have w1 : decide ((l.length : Int) < (l.length : Int)) = false := decide_eq_false (Int.lt_irrefl _)
      have w2 : decide (l.length < l.length) = false := decide_eq_false (Nat.lt_irrefl _)
      rw [List.take_length] at hst
      have r0 := hrr.1 0 _ rfl
      have r1 := hrr.1 1 _ rfl
      rw [Nat.zero_add] at r1
      have f0 := hrr.2.fz 0
      have f1 := hrr.2.fz 1
      have TH := Lib.hid (show wr.there rb 0 2 from range_there hrr.1 rfl hrr.2)
      have TTT := Lib.hid TV
      by_cases hs1 : st.length = 1
      · obtain ⟨x, rfl⟩ := List.length_eq_one_iff.1 hs1
        obtain ⟨g, rfl⟩ := hao (by simp)
        have EV := Lib.hid (show evalCd (envE X) l = some x by unfold evalCd; rw [hst]; rfl)
        have cx : wr.cell? ⟨g, 0, none⟩ = some (.int .i64 x) := (ho.cellAt 0 (by simp)).trans rfl
        clear hk hg hkl TV HC hst hrr ho hao hs1 sl sl2
        go_wp2_with fail
        exact bodyPost_ret (v := .agg #[.int .i64 x, .bool true]) (res_cell (a := 4) rfl rfl (run_loadVar_mid _ rb 0 107 _ _ (World.rangeAt_setCells_same _ rb 0 [.int .i64 x, .bool true] TH.out) Try.underlying107 rfl size107)) rfl ⟨by rw [EV.out]; rfl, rv_res TTT.out HRB.out x true⟩
      · have k1 : (((st.length : Nat) : Int) != 1) = true := by simp; omega
        have EV := Lib.hid (show evalCd (envE X) l = none by unfold evalCd; rw [hst]; exact one_many hs1)
        clear hk hg hkl TV HC hst hrr ho hao hs1 sl sl2
        go_wp2_with fail
        exact bodyPost_ret (v := .agg #[.int .i64 0, .bool false]) (res_cell (a := 4) rfl rfl (run_loadVar_mid _ rb 0 107 _ _ (World.rangeAt_setCells_same _ rb 0 [.int .i64 0, .bool false] TH.out) Try.underlying107 rfl size107)) rfl ⟨by rw [EV.out]; rfl, rv_res TTT.out HRB.out 0 false⟩
end Go.Proofs.Ytfidnahbhomomaa
