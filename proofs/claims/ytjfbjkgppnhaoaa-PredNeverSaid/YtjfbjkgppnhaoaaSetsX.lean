/-
  What sets(nums) makes, number by number.
-/
import Derived.Test.YtjfbjkgppnhaoaaSets
namespace Go.Proofs.Ytjfbjkgppnhaoaa
open Go.ChangeShapes Go.WideShapes Go.ChangeAt Go.RowKit
set_option linter.unusedVariables false

def evOf (n : Int) : Ev := (n, n / 2, wrap64 (-n), bits BinOp.and IntKind.i64 n 3)
def rowEv (L : Nat → Nat) (X : Nat → Nat → Int) (i k : Nat) : List Ev := (List.range k).map (fun c => evOf (X i c))
theorem rowEv_len (L : Nat → Nat) (X : Nat → Nat → Int) (i k : Nat) : (rowEv L X i k).length = k := by simp [rowEv]
theorem rowEv_succ (L : Nat → Nat) (X : Nat → Nat → Int) (i k : Nat) : rowEv L X i (k + 1) = rowEv L X i k ++ [evOf (X i k)] := by simp [rowEv, List.range_succ]
/-- Rows of numbers that came in: how long each is, and its numbers. -/
def RowsX (w : World) (a : Option Addr) (len : Nat) (L : Nat → Nat) (X : Nat → Nat → Int) : Prop :=
  len = 0 ∨ ∃ (b off : Nat) (A : Nat → Option Addr) (C : Nat → Nat), a = some ⟨b, off, none⟩ ∧ len ≤ 9223372036854775807 ∧ ∀ r, r < len → w.cell? ⟨b, off + r, none⟩ = some (.slice (A r) (L r) (C r)) ∧ L r ≤ 9223372036854775807 ∧
    (0 < L r → ∃ rb ro, A r = some ⟨rb, ro, none⟩ ∧ ∀ c, c < L r → w.cell? ⟨rb, ro + c, none⟩ = some (.int .i64 (X r c)))
theorem RowsX.keep {w w' : World} {a : Option Addr} {len : Nat} {L : Nat → Nat} {X : Nat → Nat → Int} (h : RowsX w a len L X) (hb : Below w.heap.size w w') : RowsX w' a len L X := by
  rcases h with h | ⟨b, off, A, C, e, hl, h⟩
  · exact .inl h
  · refine .inr ⟨b, off, A, C, e, hl, fun r hr => ?_⟩
    obtain ⟨h1, h2, h3⟩ := h r hr
    refine ⟨(hb.cell (p := ⟨b, off + r, none⟩) (block_lt_of_cell h1)).trans h1, h2, fun hL => ?_⟩
    obtain ⟨rb, ro, e2, h4⟩ := h3 hL
    exact ⟨rb, ro, e2, fun c hc => (hb.cell (p := ⟨rb, ro + c, none⟩) (block_lt_of_cell (h4 c hc))).trans (h4 c hc)⟩
def setLen (L : Nat → Nat) (i : Nat) : Nat := if L i < 3 then L i else 3
/-- The sets, each an own row of the events that its row makes. -/
def MadeX (w : World) (base : Nat) (L : Nat → Nat) (X : Nat → Nat → Int) (us : List Value) : Prop := ∀ (j : Nat) (u : Value), us[j]? = some u → w.ownsRow base 51 6 u (setLen L j) (ecells (rowEv L X j (setLen L j)))
theorem setLen_le (L : Nat → Nat) (i : Nat) : setLen L i ≤ 3 := by unfold setLen; split <;> omega
theorem MadeX.one {w : World} {base : Nat} {L : Nat → Nat} {X : Nat → Nat → Int} {us : List Value} (h : MadeX w base L X us) {j : Nat} {u : Value} (hj : us[j]? = some u) : MadeSet w base u := ⟨setLen L j, _, rowEv_len .., setLen_le L j, h j u hj⟩
theorem MadeX.keep {w w' : World} {base : Nat} {L : Nat → Nat} {X : Nat → Nat → Int} {us : List Value} (h : MadeX w base L X us) (hk : ∀ u ∈ us, ∀ k, u.ownBlock = some k → w'.heap[k]? = w.heap[k]?) : MadeX w' base L X us := fun j u hj =>
  prow_keep (e := 0) (h j u hj) (fun q hq => hk u (List.mem_of_getElem? hj) q hq)
theorem MadeX.snoc {w : World} {base : Nat} {L : Nat → Nat} {X : Nat → Nat → Int} {us : List Value} {i : Nat} {u : Value} (h : MadeX w base L X us) (hi : us.length = i) (hu : w.ownsRow base 51 6 u (setLen L i) (ecells (rowEv L X i (setLen L i)))) : MadeX w base L X (us ++ [u]) := fun j x hj => by
  subst hi
  rcases Nat.lt_trichotomy j us.length with e | e | e
  · rw [List.getElem?_append_left e] at hj
    exact h j x hj
  · subst e
    simp at hj
    subst hj
    exact hu
  · rw [List.getElem?_eq_none (by simp; omega)] at hj
    cases hj
def OutRelX (w : World) (L : Nat → Nat) (X : Nat → Nat → Int) (len : Nat) (gh : Nat) (v3 v4 : Value) (wr : World) : Prop :=
  ∃ (i : Nat) (us : List Value), v4 = .int .i64 (i : Int) ∧ i ≤ len ∧ i ≤ 4 ∧ gh = 4 - i ∧ us.length = i ∧ wr.ownsRow w.heap.size 48 1 v3 i us ∧ MadeX wr w.heap.size L X us ∧ Below w.heap.size w wr
def InRelX (W : World) (L : Nat → Nat) (X : Nat → Nat → Int) (i : Nat) (ln : Nat) (gh : Nat) (v5 v6 : Value) (wr : World) : Prop :=
  ∃ (k : Nat), v6 = .int .i64 (k : Int) ∧ k ≤ ln ∧ k ≤ 3 ∧ gh = 3 - k ∧ wr.ownsRow W.heap.size 51 6 v5 k (ecells (rowEv L X i k)) ∧ Below W.heap.size W wr
def nSets (len : Nat) : Nat := if len < 4 then len else 4

set_option maxRecDepth 100000 in
set_option maxHeartbeats 4000000 in
theorem sets_own_x {w : World} {a : Option Addr} {len cap : Nat} {L : Nat → Nat} {X : Nat → Nat → Int} (h : RowsX w a len L X) :
    Calls Try.prog 15 #[.slice a len cap] w fun e w' => ∃ v us, e = .returned v ∧ us.length = nSets len ∧ w'.ownsRow w.heap.size 48 1 v us.length us ∧ MadeX w' w.heap.size L X us ∧ Below w.heap.size w w' := by
  obtain ⟨i0, hi1, hz0, hz1, hz2⟩ := info_parts info48
  obtain ⟨i1, ki, kz0, kz1, kz2⟩ := info_parts info51
  have R0 : OutRelX w L X len 4 (.slice none 0 0) (.int .i64 0) w := ⟨0, [], rfl, Nat.zero_le _, Nat.zero_le _, rfl, rfl, World.ownsRow_nil _ _ _ _, fun j u hu => by simp at hu, Below.refl _ _⟩
  have H := Lib.hid h
  clear h
  go_enter Try.func15, Try.ntmps15
  go_wp2_with fail
  go_loopg [3, 4] 4 (fun gh v3 v4 wr => OutRelX w L X len gh v3 v4 wr)
  case atStart => exact R0
  case round =>
    clear R0
    obtain ⟨i, us, rfl, hi, hi4, hg, hus, hrow, hmade, hbel⟩ := hrel
    obtain ⟨o3, c3, rfl, _⟩ := prow_slice hrow
    by_cases hil : i < len
    · by_cases hi5 : i < 4
      · obtain ⟨b, off, A, C, rfl, hl, hcell⟩ : ∃ (b off : Nat) (A : Nat → Option Addr) (C : Nat → Nat), a = some ⟨b, off, none⟩ ∧ len ≤ 9223372036854775807 ∧ ∀ r, r < len → wr.cell? ⟨b, off + r, none⟩ = some (.slice (A r) (L r) (C r)) ∧ L r ≤ 9223372036854775807 ∧
            (0 < L r → ∃ rb ro, A r = some ⟨rb, ro, none⟩ ∧ ∀ c, c < L r → wr.cell? ⟨rb, ro + c, none⟩ = some (.int .i64 (X r c))) := (H.out.keep hbel).resolve_left (by omega)
        obtain ⟨xc, xl, xn⟩ := hcell i hil
        have XX := Lib.hid (And.intro xc (And.intro xn (And.intro hus (And.intro hrow (And.intro hmade hbel)))))
        have I0 : InRelX wr L X i (L i) 3 (.slice none 0 0) (.int .i64 0) wr := ⟨0, rfl, Nat.zero_le _, Nat.zero_le _, rfl, World.ownsRow_nil _ _ _ _, Below.refl _ _⟩
        have i4 : (i : Int) < 4 := by omega
        generalize A i = ai at xc xn XX
        generalize hln : L i = ln at xc xl xn XX I0
        have LN := Lib.hid hln
        clear hln
        generalize C i = ci at xc XX
        clear hcell hus hrow hmade hbel xn
        go_wp2_with fail
        obtain ⟨wo, rfl⟩ : ∃ wo : World, wo = wr := ⟨_, rfl⟩
        go_loopg [5, 6] 3 (fun gh v5 v6 wz => InRelX wo L X i ln gh v5 v6 wz)
        case atStart => exact I0
        case round =>
          clear I0
          obtain ⟨k, rfl, hk, hk3, hg3, hrow5, hb5⟩ := hrel
          obtain ⟨o5, c5, rfl, _⟩ := prow_slice hrow5
          have xc5 := (hb5.cell (p := ⟨b, off + i, none⟩) (block_lt_of_cell XX.out.1)).trans XX.out.1
          by_cases hkl : k < ln
          · by_cases hk4 : k < 3
            · obtain ⟨rb, ro, eai, hnum⟩ := XX.out.2.1 (by omega)
              have xn := (hb5.cell (p := ⟨rb, ro + k, none⟩) (block_lt_of_cell (hnum k hkl))).trans (hnum k hkl)
              subst eai
              have k4 : (k : Int) < 3 := by omega
              have Y5 := Lib.hid (And.intro hrow5 hb5)
              have sz5 := hb5.size
              generalize hnx : X i k = nx at xn
              have NX := Lib.hid hnx
              clear hnx
              have z0 : wo.heap.size ≤ (wr.alloc (.cells #[.int .i64 0, .int .i64 0, .int .i64 nx, .int .i64 (nx / 2), .int .i64 (wrap64 (-nx)), .int .i64 (bits BinOp.and IntKind.i64 nx 3)] 51)).heap.size := by rw [World.size_alloc]; omega
              clear xc
              go_wp2_with (at_builtin; refine wpList_append_lies _ rfl (.tmp 38) (.tmp 48) 48 rfl wo.heap.size 51 i1 _ 6 48 Try.underlying48 ki kz0 kz1 kz2 rfl (by decide) (.slice o5 k c5) k (ecells (rowEv L X i k)) rfl (hrow5.alloc _) ⟨wr.heap.size, 0, none⟩ 1 1 [.int .i64 0, .int .i64 0, .int .i64 nx, .int .i64 (nx / 2), .int .i64 (wrap64 (-nx)), .int .i64 (bits BinOp.and IntKind.i64 nx 3)] rfl rfl (World.news_of_block (cs := #[.int .i64 0, .int .i64 0, .int .i64 nx, .int .i64 (nx / 2), .int .i64 (wrap64 (-nx)), .int .i64 (bits BinOp.and IntKind.i64 nx 3)]) (t := 51) (fr := (0, 0)) (heap_alloc_new wr _)) (by simp [Value.oneCell']) (by decide) (by unfold maxLen; omega) (by omega) z0 (wr.heap.size + 1) (World.size_alloc _ _) ?_; intro gg cap2 w1 hown1 hgrow hat hlt)
              go_roundg (3 - (k + 1))
              case measure => omega
              case rel =>
                have hb6 : Below wo.heap.size wo w1 := hb5.trans ((((Below.refl wo.heap.size wr).alloc sz5 _)).grown hgrow (by rw [World.size_alloc]; omega) (fun j ej => (prow_lt hrow5 ej).1))
                exact ⟨k + 1, by go_num, by omega, by omega, rfl, by rw [rowEv_succ, NX.out, ecells_snoc]; exact hown1, hb6⟩
            · have Y5 := Lib.hid (And.intro hrow5 hb5)
              clear hrow5 hb5
              have hb5 := Y5.out.2
              have hrow3 : wr.ownsRow w.heap.size 48 1 (.slice o3 i c3) i us := prow_keep (e := 0) XX.out.2.2.2.1 (fun q hq => hb5.block q (prow_lt XX.out.2.2.2.1 hq).2)
              have sz5 := hb5.size
              have sz6 := XX.out.2.2.2.2.2.size
              have z0 : w.heap.size ≤ (wr.alloc (.cells #[.slice o5 k c5] 48)).heap.size := by rw [World.size_alloc]; omega
              clear hb5
              go_wp2_with (at_builtin; refine wpList_append_lies _ rfl (.tmp 50) (.tmp 52) 27 rfl w.heap.size 48 i0 _ 1 24 Try.underlying27 hi1 hz0 hz1 hz2 rfl (by decide) (.slice o3 i c3) i us rfl (hrow3.alloc _) ⟨wr.heap.size, 0, none⟩ 1 1 [.slice o5 k c5] rfl rfl (World.news_of_block (cs := #[.slice o5 k c5]) (t := 48) (fr := (0, 0)) (heap_alloc_new wr _)) (by simp [Value.oneCell']) (by decide) (by unfold maxLen; omega) (by omega) z0 (wr.heap.size + 1) (World.size_alloc _ _) ?_; intro gg cap2 w1 hown1 hgrow hat hlt)
              go_roundg (4 - (i + 1))
              case measure => omega
              case rel =>
                obtain ⟨_, _, hus, hrow, hmade, hbel⟩ := XX.out
                obtain ⟨hrow5, hb5⟩ := Y5.out
                have key : ∀ q, q < wr.heap.size → (Value.slice o3 i c3).ownBlock ≠ some q → w1.heap[q]? = wr.heap[q]? := fun q hq hne => (hgrow.block q (by rw [World.size_alloc]; omega) (fun e => hne e.symm)).trans (Below.heap_alloc wr _ q hq)
                have ek : setLen L i = k := by unfold setLen; rw [LN.out]; split <;> omega
                have hm6 := prow_low hrow5 sz6
                have hm5 : MadeSet wr w.heap.size (.slice o5 k c5) := ⟨k, _, rowEv_len L X i k, by omega, hm6⟩
                have hb6 : Below w.heap.size w w1 := (hbel.trans (hb5.mono sz6)).trans ((((Below.refl w.heap.size wr).alloc (by omega) _)).grown hgrow (by rw [World.size_alloc]; omega) (fun j ej => (prow_lt hrow3 ej).1))
                refine ⟨i + 1, us ++ [.slice o5 k c5], by go_num, by omega, by omega, rfl, by rw [List.length_append, hus]; rfl, hown1, MadeX.snoc (hmade.keep fun u hu q hq => ?_) hus ?_, hb6⟩
                · obtain ⟨j, hj⟩ := List.getElem?_of_mem hu
                  have hm := (hmade.one hj).keep (w' := wr) (fun q hq => hb5.block q ((hmade.one hj).lt hq).2)
                  exact (key q (hm.lt hq).2 (fun e => made_apart hrow3 hm q e hq)).trans (hb5.block q ((hmade.one hj).lt hq).2)
                · rw [ek]
                  exact prow_keep (e := 0) hm6 (fun q hq => key q (hm5.lt hq).2 (fun e => made_apart hrow3 hm5 q e hq))
          · have Y5 := Lib.hid (And.intro hrow5 hb5)
            clear hrow5 hb5
            have hb5 := Y5.out.2
            have hrow3 : wr.ownsRow w.heap.size 48 1 (.slice o3 i c3) i us := prow_keep (e := 0) XX.out.2.2.2.1 (fun q hq => hb5.block q (prow_lt XX.out.2.2.2.1 hq).2)
            have sz5 := hb5.size
            have sz6 := XX.out.2.2.2.2.2.size
            have z0 : w.heap.size ≤ (wr.alloc (.cells #[.slice o5 k c5] 48)).heap.size := by rw [World.size_alloc]; omega
            clear hb5
            go_wp2_with (at_builtin; refine wpList_append_lies _ rfl (.tmp 50) (.tmp 52) 27 rfl w.heap.size 48 i0 _ 1 24 Try.underlying27 hi1 hz0 hz1 hz2 rfl (by decide) (.slice o3 i c3) i us rfl (hrow3.alloc _) ⟨wr.heap.size, 0, none⟩ 1 1 [.slice o5 k c5] rfl rfl (World.news_of_block (cs := #[.slice o5 k c5]) (t := 48) (fr := (0, 0)) (heap_alloc_new wr _)) (by simp [Value.oneCell']) (by decide) (by unfold maxLen; omega) (by omega) z0 (wr.heap.size + 1) (World.size_alloc _ _) ?_; intro gg cap2 w1 hown1 hgrow hat hlt)
            go_roundg (4 - (i + 1))
            case measure => omega
            case rel =>
              obtain ⟨_, _, hus, hrow, hmade, hbel⟩ := XX.out
              obtain ⟨hrow5, hb5⟩ := Y5.out
              have key : ∀ q, q < wr.heap.size → (Value.slice o3 i c3).ownBlock ≠ some q → w1.heap[q]? = wr.heap[q]? := fun q hq hne => (hgrow.block q (by rw [World.size_alloc]; omega) (fun e => hne e.symm)).trans (Below.heap_alloc wr _ q hq)
              have ek : setLen L i = k := by unfold setLen; rw [LN.out]; split <;> omega
              have hm6 := prow_low hrow5 sz6
              have hm5 : MadeSet wr w.heap.size (.slice o5 k c5) := ⟨k, _, rowEv_len L X i k, by omega, hm6⟩
              have hb6 : Below w.heap.size w w1 := (hbel.trans (hb5.mono sz6)).trans ((((Below.refl w.heap.size wr).alloc (by omega) _)).grown hgrow (by rw [World.size_alloc]; omega) (fun j ej => (prow_lt hrow3 ej).1))
              refine ⟨i + 1, us ++ [.slice o5 k c5], by go_num, by omega, by omega, rfl, by rw [List.length_append, hus]; rfl, hown1, MadeX.snoc (hmade.keep fun u hu q hq => ?_) hus ?_, hb6⟩
              · obtain ⟨j, hj⟩ := List.getElem?_of_mem hu
                have hm := (hmade.one hj).keep (w' := wr) (fun q hq => hb5.block q ((hmade.one hj).lt hq).2)
                exact (key q (hm.lt hq).2 (fun e => made_apart hrow3 hm q e hq)).trans (hb5.block q ((hmade.one hj).lt hq).2)
              · rw [ek]
                exact prow_keep (e := 0) hm6 (fun q hq => key q (hm5.lt hq).2 (fun e => made_apart hrow3 hm5 q e hq))
      · have X5 := Lib.hid (And.intro hus (And.intro hrow (And.intro hmade hbel)))
        clear hus hrow hmade hbel
        go_wp2
        go_ret
        have e1 := X5.out.1
        exact ⟨_, us, rfl, by rw [e1]; unfold nSets; split <;> omega, by rw [e1]; exact X5.out.2.1, X5.out.2.2⟩
    · have X5 := Lib.hid (And.intro hus (And.intro hrow (And.intro hmade hbel)))
      clear hus hrow hmade hbel
      go_wp2
      go_ret
      have e1 := X5.out.1
      exact ⟨_, us, rfl, by rw [e1]; unfold nSets; split <;> omega, by rw [e1]; exact X5.out.2.1, X5.out.2.2⟩
end Go.Proofs.Ytjfbjkgppnhaoaa
