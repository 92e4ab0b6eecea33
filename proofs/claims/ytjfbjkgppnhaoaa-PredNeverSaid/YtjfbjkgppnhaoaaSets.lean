/-
  The sets of events that the statements of layer 5 make of rows of numbers.
-/
import Derived.Test.YtjfbjkgppnhaoaaEnv

namespace Go.Proofs.Ytjfbjkgppnhaoaa
open Go.ChangeShapes Go.WideShapes Go.ChangeAt Go.RowKit
set_option linter.unusedVariables false

/-- Rows of numbers that came in. -/
def RowsIn (w : World) (a : Option Addr) (len : Nat) : Prop :=
  len = 0 ∨ ∃ (b off : Nat) (A : Nat → Option Addr) (L C : Nat → Nat) (X : Nat → Nat → Int), a = some ⟨b, off, none⟩ ∧ len ≤ 9223372036854775807 ∧ ∀ r, r < len → w.cell? ⟨b, off + r, none⟩ = some (.slice (A r) (L r) (C r)) ∧ L r ≤ 9223372036854775807 ∧
    (0 < L r → ∃ rb ro, A r = some ⟨rb, ro, none⟩ ∧ ∀ c, c < L r → w.cell? ⟨rb, ro + c, none⟩ = some (.int .i64 (X r c)))
theorem RowsIn.keep {w w' : World} {a : Option Addr} {len : Nat} (h : RowsIn w a len) (hb : Below w.heap.size w w') : RowsIn w' a len := by
  rcases h with h | ⟨b, off, A, L, C, X, e, hl, h⟩
  · exact .inl h
  · refine .inr ⟨b, off, A, L, C, X, e, hl, fun r hr => ?_⟩
    obtain ⟨h1, h2, h3⟩ := h r hr
    refine ⟨(hb.cell (p := ⟨b, off + r, none⟩) (block_lt_of_cell h1)).trans h1, h2, fun hL => ?_⟩
    obtain ⟨rb, ro, e2, h4⟩ := h3 hL
    exact ⟨rb, ro, e2, fun c hc => (hb.cell (p := ⟨rb, ro + c, none⟩) (block_lt_of_cell (h4 c hc))).trans (h4 c hc)⟩

abbrev Ev := Int × Int × Int × Int
def ecell (q : Ev) : List Value := [.int .i64 0, .int .i64 0, .int .i64 q.1, .int .i64 q.2.1, .int .i64 q.2.2.1, .int .i64 q.2.2.2]
def ecells : List Ev → List Value
  | [] => []
  | q :: l => ecell q ++ ecells l
theorem ecells_snoc : ∀ (l : List Ev) (q : Ev), ecells (l ++ [q]) = ecells l ++ ecell q
  | [], q => by simp [ecells]
  | p :: l, q => by simp [ecells, ecells_snoc l q]
theorem ecells_len : ∀ (l : List Ev), (ecells l).length = l.length * 6
  | [] => rfl
  | p :: l => by
    rw [ecells, List.length_append, ecells_len l]
    simp [ecell]
    omega
theorem ecells_at : ∀ (l : List Ev) (j o : Nat) (q : Ev) (u : Value), l[j]? = some q → (ecell q)[o]? = some u → (ecells l)[j * 6 + o]? = some u
  | [], j, o, q, u, h, _ => by simp at h
  | p :: l, 0, o, q, u, h, ho => by
    simp at h
    subst h
    have hl : o < (ecell p).length := (List.getElem?_eq_some_iff.1 ho).1
    rw [ecells, Nat.zero_mul, Nat.zero_add, List.getElem?_append_left hl]
    exact ho
  | p :: l, j + 1, o, q, u, h, ho => by
    have hl : (ecell p).length = 6 := rfl
    rw [ecells, List.getElem?_append_right (by rw [hl]; omega), hl, show (j + 1) * 6 + o - 6 = j * 6 + o from by omega]
    exact ecells_at l j o q u (by simpa using h) ho

/-- A set that was made: a row of events of its own. -/
def MadeSet (w : World) (base : Nat) (u : Value) : Prop := ∃ (n : Nat) (l : List Ev), l.length = n ∧ n ≤ 3 ∧ w.ownsRow base 51 6 u n (ecells l)
theorem MadeSet.keep {w w' : World} {base : Nat} {u : Value} (h : MadeSet w base u) (hk : ∀ k, u.ownBlock = some k → w'.heap[k]? = w.heap[k]?) : MadeSet w' base u := by
  obtain ⟨n, l, h1, h2, h3⟩ := h
  exact ⟨n, l, h1, h2, prow_keep (e := 0) h3 hk⟩
theorem MadeSet.lt {w : World} {base : Nat} {u : Value} (h : MadeSet w base u) {k : Nat} (hk : u.ownBlock = some k) : base ≤ k ∧ k < w.heap.size := by
  obtain ⟨n, l, h1, h2, h3⟩ := h
  exact prow_lt h3 hk
theorem prow_low {w : World} {b b' size n : Nat} {t : TypeId} {v : Value} {xs : List Value} (h : w.ownsRow b t size v n xs) (hb : b' ≤ b) : w.ownsRow b' t size v n xs := by
  refine ⟨h.1, ?_⟩
  rcases h.2 with h0 | ⟨g, cap, cur, rfl, hg, rest⟩
  · exact .inl h0
  · exact .inr ⟨g, cap, cur, rfl, Nat.le_trans hb hg, rest⟩
theorem made_apart {w : World} {base base' n : Nat} {v u : Value} {xs : List Value} (h : w.ownsRow base 48 1 v n xs) (h' : MadeSet w base' u) (k : Nat) (e : v.ownBlock = some k) : u.ownBlock ≠ some k := fun e' => by
  obtain ⟨n', l, _, _, h3⟩ := h'
  rcases h.2 with ⟨rfl, _⟩ | ⟨g, cap, cur, rfl, hg, hgg, _⟩
  · cases e
  · rcases h3.2 with ⟨rfl, _⟩ | ⟨g', cap', cur', rfl, hg', hgg', _⟩
    · cases e'
    · simp [Value.ownBlock] at e e'
      subst e
      subst e'
      rw [hgg] at hgg'
      injection hgg' with h1
      injection h1 with _ h2
      exact absurd h2 (by decide)
def OutRel (w : World) (len : Nat) (gh : Nat) (v3 v4 : Value) (wr : World) : Prop :=
  ∃ (i : Nat) (us : List Value), v4 = .int .i64 (i : Int) ∧ i ≤ len ∧ i ≤ 4 ∧ gh = 4 - i ∧ us.length = i ∧ wr.ownsRow w.heap.size 48 1 v3 i us ∧ (∀ u ∈ us, MadeSet wr w.heap.size u) ∧ Below w.heap.size w wr
def InRel (W : World) (ln : Nat) (gh : Nat) (v5 v6 : Value) (wr : World) : Prop :=
  ∃ (k : Nat) (l : List Ev), v6 = .int .i64 (k : Int) ∧ k ≤ ln ∧ k ≤ 3 ∧ gh = 3 - k ∧ l.length = k ∧ wr.ownsRow W.heap.size 51 6 v5 k (ecells l) ∧ Below W.heap.size W wr
theorem info48 : (Try.prog.info? 48).map (fun i => (i.zero, i.size, i.bytes)) = some (some (.slice none 0 0), 1, 24) := by kernel_rfl
theorem info51 : (Try.prog.info? 51).map (fun i => (i.zero, i.size, i.bytes)) = some (some (.agg #[.int .i64 0, .int .i64 0, .int .i64 0, .int .i64 0, .int .i64 0, .int .i64 0]), 6, 48) := by kernel_rfl

set_option maxRecDepth 100000 in
set_option maxHeartbeats 4000000 in
theorem sets_own {w : World} {a : Option Addr} {len cap : Nat} (h : RowsIn w a len) :
    Calls Try.prog 15 #[.slice a len cap] w fun e w' => ∃ v m us, e = .returned v ∧ us.length = m ∧ m ≤ 4 ∧ w'.ownsRow w.heap.size 48 1 v m us ∧ (∀ u ∈ us, MadeSet w' w.heap.size u) ∧ Below w.heap.size w w' := by
  obtain ⟨i0, hi1, hz0, hz1, hz2⟩ := info_parts info48
  obtain ⟨i1, ki, kz0, kz1, kz2⟩ := info_parts info51
  have R0 : OutRel w len 4 (.slice none 0 0) (.int .i64 0) w := ⟨0, [], rfl, Nat.zero_le _, Nat.zero_le _, rfl, rfl, World.ownsRow_nil _ _ _ _, fun u hu => absurd hu (by simp), Below.refl _ _⟩
  have H := Lib.hid h
  clear h
  go_enter Try.func15, Try.ntmps15
  go_wp2_with fail
  go_loopg [3, 4] 4 (fun gh v3 v4 wr => OutRel w len gh v3 v4 wr)
  case atStart => exact R0
  case round =>
    clear R0
    obtain ⟨i, us, rfl, hi, hi4, hg, hus, hrow, hmade, hbel⟩ := hrel
    obtain ⟨o3, c3, rfl, _⟩ := prow_slice hrow
    by_cases hil : i < len
    · by_cases hi5 : i < 4
      · obtain ⟨b, off, A, L, C, X, rfl, hl, hcell⟩ : ∃ (b off : Nat) (A : Nat → Option Addr) (L C : Nat → Nat) (X : Nat → Nat → Int), a = some ⟨b, off, none⟩ ∧ len ≤ 9223372036854775807 ∧ ∀ r, r < len → wr.cell? ⟨b, off + r, none⟩ = some (.slice (A r) (L r) (C r)) ∧ L r ≤ 9223372036854775807 ∧
            (0 < L r → ∃ rb ro, A r = some ⟨rb, ro, none⟩ ∧ ∀ c, c < L r → wr.cell? ⟨rb, ro + c, none⟩ = some (.int .i64 (X r c))) := (H.out.keep hbel).resolve_left (by omega)
        obtain ⟨xc, xl, xn⟩ := hcell i hil
        have XX := Lib.hid (And.intro xc (And.intro xn (And.intro hus (And.intro hrow (And.intro hmade hbel)))))
        have I0 : InRel wr (L i) 3 (.slice none 0 0) (.int .i64 0) wr := ⟨0, [], rfl, Nat.zero_le _, Nat.zero_le _, rfl, rfl, World.ownsRow_nil _ _ _ _, Below.refl _ _⟩
        have i4 : (i : Int) < 4 := by omega
        generalize A i = ai at xc xn XX
        generalize L i = ln at xc xl xn XX I0
        generalize C i = ci at xc XX
        clear hcell hus hrow hmade hbel xn
        go_wp2_with fail
        obtain ⟨wo, rfl⟩ : ∃ wo : World, wo = wr := ⟨_, rfl⟩
        go_loopg [5, 6] 3 (fun gh v5 v6 wz => InRel wo ln gh v5 v6 wz)
        case atStart => exact I0
        case round =>
          clear I0
          obtain ⟨k, l, rfl, hk, hk3, hg3, hlk, hrow5, hb5⟩ := hrel
          obtain ⟨o5, c5, rfl, _⟩ := prow_slice hrow5
          have xc5 := (hb5.cell (p := ⟨b, off + i, none⟩) (block_lt_of_cell XX.out.1)).trans XX.out.1
          by_cases hkl : k < ln
          · by_cases hk4 : k < 3
            · obtain ⟨rb, ro, eai, hnum⟩ := XX.out.2.1 (by omega)
              have xn := (hb5.cell (p := ⟨rb, ro + k, none⟩) (block_lt_of_cell (hnum k hkl))).trans (hnum k hkl)
              subst eai
              have k4 : (k : Int) < 3 := by omega
              have Y5 := Lib.hid (And.intro hlk (And.intro hrow5 hb5))
              have sz5 := hb5.size
              generalize X i k = nx at xn
              have z0 : wo.heap.size ≤ (wr.alloc (.cells #[.int .i64 0, .int .i64 0, .int .i64 nx, .int .i64 (nx / 2), .int .i64 (wrap64 (-nx)), .int .i64 (bits BinOp.and IntKind.i64 nx 3)] 51)).heap.size := by rw [World.size_alloc]; omega
              clear hlk xc
              go_wp2_with (at_builtin; refine wpList_append_lies _ rfl (.tmp 38) (.tmp 48) 48 rfl wo.heap.size 51 i1 _ 6 48 Try.underlying48 ki kz0 kz1 kz2 rfl (by decide) (.slice o5 k c5) k (ecells l) rfl (hrow5.alloc _) ⟨wr.heap.size, 0, none⟩ 1 1 [.int .i64 0, .int .i64 0, .int .i64 nx, .int .i64 (nx / 2), .int .i64 (wrap64 (-nx)), .int .i64 (bits BinOp.and IntKind.i64 nx 3)] rfl rfl (World.news_of_block (cs := #[.int .i64 0, .int .i64 0, .int .i64 nx, .int .i64 (nx / 2), .int .i64 (wrap64 (-nx)), .int .i64 (bits BinOp.and IntKind.i64 nx 3)]) (t := 51) (fr := (0, 0)) (heap_alloc_new wr _)) (by simp [Value.oneCell']) (by decide) (by unfold maxLen; omega) (by omega) z0 (wr.heap.size + 1) (World.size_alloc _ _) ?_; intro gg cap2 w1 hown1 hgrow hat hlt)
              go_roundg (3 - (k + 1))
              case measure => omega
              case rel =>
                have hb6 : Below wo.heap.size wo w1 := hb5.trans ((((Below.refl wo.heap.size wr).alloc sz5 _)).grown hgrow (by rw [World.size_alloc]; omega) (fun j ej => (prow_lt hrow5 ej).1))
                exact ⟨k + 1, l ++ [(nx, nx / 2, wrap64 (-nx), bits BinOp.and IntKind.i64 nx 3)], by go_num, by omega, by omega, rfl, by rw [List.length_append, Y5.out.1]; rfl, by rw [ecells_snoc]; exact hown1, hb6⟩
            · have Y5 := Lib.hid (And.intro hlk (And.intro hrow5 hb5))
              clear hlk hrow5 hb5
              have hb5 := Y5.out.2.2
              have hrow3 : wr.ownsRow w.heap.size 48 1 (.slice o3 i c3) i us := prow_keep (e := 0) XX.out.2.2.2.1 (fun q hq => hb5.block q (prow_lt XX.out.2.2.2.1 hq).2)
              have sz5 := hb5.size
              have sz6 := XX.out.2.2.2.2.2.size
              have z0 : w.heap.size ≤ (wr.alloc (.cells #[.slice o5 k c5] 48)).heap.size := by rw [World.size_alloc]; omega
              clear hb5
              go_wp2_with (at_builtin; refine wpList_append_lies _ rfl (.tmp 50) (.tmp 52) 27 rfl w.heap.size 48 i0 _ 1 24 Try.underlying27 hi1 hz0 hz1 hz2 rfl (by decide) (.slice o3 i c3) i us rfl (hrow3.alloc _) ⟨wr.heap.size, 0, none⟩ 1 1 [.slice o5 k c5] rfl rfl (World.news_of_block (cs := #[.slice o5 k c5]) (t := 48) (fr := (0, 0)) (heap_alloc_new wr _)) (by simp [Value.oneCell']) (by decide) (by unfold maxLen; omega) (by omega) z0 (wr.heap.size + 1) (World.size_alloc _ _) ?_; intro gg cap2 w1 hown1 hgrow hat hlt)
              go_roundg (4 - (i + 1))
              case measure => omega
              case rel =>
                obtain ⟨_, _, hus, hrow, hmade, hbel⟩ := XX.out
                obtain ⟨hlk, hrow5, hb5⟩ := Y5.out
                have key : ∀ q, q < wr.heap.size → (Value.slice o3 i c3).ownBlock ≠ some q → w1.heap[q]? = wr.heap[q]? := fun q hq hne => (hgrow.block q (by rw [World.size_alloc]; omega) (fun e => hne e.symm)).trans (Below.heap_alloc wr _ q hq)
                have hm5 : MadeSet wr w.heap.size (.slice o5 k c5) := ⟨k, l, hlk, by omega, prow_low hrow5 sz6⟩
                have hb6 : Below w.heap.size w w1 := (hbel.trans (hb5.mono sz6)).trans ((((Below.refl w.heap.size wr).alloc (by omega) _)).grown hgrow (by rw [World.size_alloc]; omega) (fun j ej => (prow_lt hrow3 ej).1))
                refine ⟨i + 1, us ++ [.slice o5 k c5], by go_num, by omega, by omega, rfl, by rw [List.length_append, hus]; rfl, hown1, fun u hu => ?_, hb6⟩
                rcases List.mem_append.1 hu with hu | hu
                · have hm := (hmade u hu).keep (w' := wr) (fun q hq => hb5.block q ((hmade u hu).lt hq).2)
                  exact hm.keep (fun q hq => key q (hm.lt hq).2 (fun e => made_apart hrow3 hm q e hq))
                · simp at hu
                  subst hu
                  exact hm5.keep (fun q hq => key q (hm5.lt hq).2 (fun e => made_apart hrow3 hm5 q e hq))
          · have Y5 := Lib.hid (And.intro hlk (And.intro hrow5 hb5))
            clear hlk hrow5 hb5
            have hb5 := Y5.out.2.2
            have hrow3 : wr.ownsRow w.heap.size 48 1 (.slice o3 i c3) i us := prow_keep (e := 0) XX.out.2.2.2.1 (fun q hq => hb5.block q (prow_lt XX.out.2.2.2.1 hq).2)
            have sz5 := hb5.size
            have sz6 := XX.out.2.2.2.2.2.size
            have z0 : w.heap.size ≤ (wr.alloc (.cells #[.slice o5 k c5] 48)).heap.size := by rw [World.size_alloc]; omega
            clear hb5
            go_wp2_with (at_builtin; refine wpList_append_lies _ rfl (.tmp 50) (.tmp 52) 27 rfl w.heap.size 48 i0 _ 1 24 Try.underlying27 hi1 hz0 hz1 hz2 rfl (by decide) (.slice o3 i c3) i us rfl (hrow3.alloc _) ⟨wr.heap.size, 0, none⟩ 1 1 [.slice o5 k c5] rfl rfl (World.news_of_block (cs := #[.slice o5 k c5]) (t := 48) (fr := (0, 0)) (heap_alloc_new wr _)) (by simp [Value.oneCell']) (by decide) (by unfold maxLen; omega) (by omega) z0 (wr.heap.size + 1) (World.size_alloc _ _) ?_; intro gg cap2 w1 hown1 hgrow hat hlt)
            go_roundg (4 - (i + 1))
            case measure => omega
            case rel =>
              obtain ⟨_, _, hus, hrow, hmade, hbel⟩ := XX.out
              obtain ⟨hlk, hrow5, hb5⟩ := Y5.out
              have key : ∀ q, q < wr.heap.size → (Value.slice o3 i c3).ownBlock ≠ some q → w1.heap[q]? = wr.heap[q]? := fun q hq hne => (hgrow.block q (by rw [World.size_alloc]; omega) (fun e => hne e.symm)).trans (Below.heap_alloc wr _ q hq)
              have hm5 : MadeSet wr w.heap.size (.slice o5 k c5) := ⟨k, l, hlk, by omega, prow_low hrow5 sz6⟩
              have hb6 : Below w.heap.size w w1 := (hbel.trans (hb5.mono sz6)).trans ((((Below.refl w.heap.size wr).alloc (by omega) _)).grown hgrow (by rw [World.size_alloc]; omega) (fun j ej => (prow_lt hrow3 ej).1))
              refine ⟨i + 1, us ++ [.slice o5 k c5], by go_num, by omega, by omega, rfl, by rw [List.length_append, hus]; rfl, hown1, fun u hu => ?_, hb6⟩
              rcases List.mem_append.1 hu with hu | hu
              · have hm := (hmade u hu).keep (w' := wr) (fun q hq => hb5.block q ((hmade u hu).lt hq).2)
                exact hm.keep (fun q hq => key q (hm.lt hq).2 (fun e => made_apart hrow3 hm q e hq))
              · simp at hu
                subst hu
                exact hm5.keep (fun q hq => key q (hm5.lt hq).2 (fun e => made_apart hrow3 hm5 q e hq))
      · have X5 := Lib.hid (And.intro hus (And.intro hrow (And.intro hmade hbel)))
        clear hus hrow hmade hbel
        go_wp2
        go_ret
        exact ⟨_, i, us, rfl, X5.out.1, hi4, X5.out.2⟩
    · have X5 := Lib.hid (And.intro hus (And.intro hrow (And.intro hmade hbel)))
      clear hus hrow hmade hbel
      go_wp2
      go_ret
      exact ⟨_, i, us, rfl, X5.out.1, hi4, X5.out.2⟩
end Go.Proofs.Ytjfbjkgppnhaoaa
