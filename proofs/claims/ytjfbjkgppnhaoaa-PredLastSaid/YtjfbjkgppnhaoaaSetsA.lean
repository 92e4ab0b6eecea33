/-
  What sets(nums) makes, number by number; the sets lie in blocks that rise.
-/
import Derived.Test.YtjfbjkgppnhaoaaSetsX
namespace Go.Proofs.Ytjfbjkgppnhaoaa
open Go.ChangeShapes Go.WideShapes Go.ChangeAt Go.RowKit
set_option linter.unusedVariables false

/-- Each row's block lies behind those of the rows before it. -/
def Asc (us : List Value) : Prop := ∀ (i j : Nat) (u v : Value) (p q : Nat), i < j → us[i]? = some u → us[j]? = some v → u.ownBlock = some p → v.ownBlock = some q → p < q
def MadeA (w : World) (base : Nat) (L : Nat → Nat) (X : Nat → Nat → Int) (us : List Value) : Prop := MadeX w base L X us ∧ Asc us
theorem MadeA.one {w : World} {base : Nat} {L : Nat → Nat} {X : Nat → Nat → Int} {us : List Value} (h : MadeA w base L X us) {j : Nat} {u : Value} (hj : us[j]? = some u) : MadeSet w base u := h.1.one hj
theorem MadeA.keep {w w' : World} {base : Nat} {L : Nat → Nat} {X : Nat → Nat → Int} {us : List Value} (h : MadeA w base L X us) (hk : ∀ u ∈ us, ∀ k, u.ownBlock = some k → w'.heap[k]? = w.heap[k]?) : MadeA w' base L X us := ⟨h.1.keep hk, h.2⟩
theorem MadeA.snoc {w : World} {base : Nat} {L : Nat → Nat} {X : Nat → Nat → Int} {us : List Value} {i : Nat} {x : Value} (h : MadeA w base L X us) (hi : us.length = i) (hb : ∀ u ∈ us, ∀ p q, u.ownBlock = some p → x.ownBlock = some q → p < q) (hu : w.ownsRow base 51 6 x (setLen L i) (ecells (rowEv L X i (setLen L i)))) : MadeA w base L X (us ++ [x]) :=
  ⟨h.1.snoc hi hu, fun i j u v p q hij h1 h2 h3 h4 => by
    have hj := (List.getElem?_eq_some_iff.1 h2).1
    rw [List.length_append] at hj
    have hil : i < us.length := by simp at hj; omega
    rw [List.getElem?_append_left hil] at h1
    by_cases e : j < us.length
    · rw [List.getElem?_append_left e] at h2
      exact h.2 i j u v p q hij h1 h2 h3 h4
    · have ej : j = us.length := by simp at hj; omega
      subst ej
      simp at h2
      subst h2
      exact hb u (List.mem_of_getElem? h1) p q h3 h4⟩
def OutRelA (w : World) (L : Nat → Nat) (X : Nat → Nat → Int) (len : Nat) (gh : Nat) (v3 v4 : Value) (wr : World) : Prop :=
  ∃ (i : Nat) (us : List Value), v4 = .int .i64 (i : Int) ∧ i ≤ len ∧ i ≤ 4 ∧ gh = 4 - i ∧ us.length = i ∧ wr.ownsRow w.heap.size 48 1 v3 i us ∧ MadeA wr w.heap.size L X us ∧ Below w.heap.size w wr

set_option maxRecDepth 100000 in
set_option maxHeartbeats 4000000 in
theorem sets_own_a {w : World} {a : Option Addr} {len cap : Nat} {L : Nat → Nat} {X : Nat → Nat → Int} (h : RowsX w a len L X) :
    Calls Try.prog 15 #[.slice a len cap] w fun e w' => ∃ v us, e = .returned v ∧ us.length = nSets len ∧ w'.ownsRow w.heap.size 48 1 v us.length us ∧ MadeA w' w.heap.size L X us ∧ Below w.heap.size w w' := by
  obtain ⟨i0, hi1, hz0, hz1, hz2⟩ := info_parts info48
  obtain ⟨i1, ki, kz0, kz1, kz2⟩ := info_parts info51
  have R0 : OutRelA w L X len 4 (.slice none 0 0) (.int .i64 0) w := ⟨0, [], rfl, Nat.zero_le _, Nat.zero_le _, rfl, rfl, World.ownsRow_nil _ _ _ _, ⟨fun j u hu => by simp at hu, fun i j u v p q hij h1 => by simp at h1⟩, Below.refl _ _⟩
  have H := Lib.hid h
  clear h
  go_enter Try.func15, Try.ntmps15
  go_wp2_with fail
  go_loopg [3, 4] 4 (fun gh v3 v4 wr => OutRelA w L X len gh v3 v4 wr)
  case atStart => exact R0
  case round =>
    clear R0
    obtain ⟨i, us, rfl, hi, hi4, hg, hus, hrow, hmade, hbel⟩ := hrel
    obtain ⟨o3, c3, rfl, _⟩ := prow_slice hrow
    by_cases hil : i < len
    · by_cases hi5 : i < 4
      · obtain ⟨b, off, A, C, rfl, hl, hcell⟩ : ∃ (b off : Nat) (A : Nat → Option Addr) (C : Nat → Nat), a = some ⟨b, off, none⟩ ∧ len ≤ 9223372036854775807 ∧ ∀ r, r < len → wr.cell? ⟨b, off + r, none⟩ = some (.slice (A r) (L r) (C r)) ∧ L r ≤ 9223372036854775807 ∧
            (0 < L r → ∃ rb ro, A r = some ⟨rb, ro, none⟩ ∧ ∀ c, c < L r → wr.cell? ⟨rb, ro + c, none⟩ = some (.int .i64 (X r c))) := (H.out.keep hbel).resolve_left (by omega)
        obtain ⟨xc, xl, xn⟩ := hcell i hil
        have XX := Lib.hid (And.intro xc (And.intro xn (And.intro hus (And.intro hrow (And.intro hmade hbel)))))
        have I0 : InRelX wr L X i (L i) 3 (.slice none 0 0) (.int .i64 0) wr := ⟨0, rfl, Nat.zero_le _, Nat.zero_le _, rfl, World.ownsRow_nil _ _ _ _, Below.refl _ _⟩
        have i4 : (i : Int) < 4 := by omega
        generalize A i = ai at xc xn XX
        generalize hln : L i = ln at xc xl xn XX I0
        have LN := Lib.hid hln
        clear hln
        generalize C i = ci at xc XX
        clear hcell hus hrow hmade hbel xn
        go_wp2_with fail
        obtain ⟨wo, rfl⟩ : ∃ wo : World, wo = wr := ⟨_, rfl⟩
        go_loopg [5, 6] 3 (fun gh v5 v6 wz => InRelX wo L X i ln gh v5 v6 wz)
        case atStart => exact I0
        case round =>
          clear I0
          obtain ⟨k, rfl, hk, hk3, hg3, hrow5, hb5⟩ := hrel
          obtain ⟨o5, c5, rfl, _⟩ := prow_slice hrow5
          have xc5 := (hb5.cell (p := ⟨b, off + i, none⟩) (block_lt_of_cell XX.out.1)).trans XX.out.1
          by_cases hkl : k < ln
          · by_cases hk4 : k < 3
            · obtain ⟨rb, ro, eai, hnum⟩ := XX.out.2.1 (by omega)
              have xn := (hb5.cell (p := ⟨rb, ro + k, none⟩) (block_lt_of_cell (hnum k hkl))).trans (hnum k hkl)
              subst eai
              have k4 : (k : Int) < 3 := by omega
              have Y5 := Lib.hid (And.intro hrow5 hb5)
              have sz5 := hb5.size
              generalize hnx : X i k = nx at xn
              have NX := Lib.hid hnx
              clear hnx
              have z0 : wo.heap.size ≤ (wr.alloc (.cells #[.int .i64 0, .int .i64 0, .int .i64 nx, .int .i64 (nx / 2), .int .i64 (wrap64 (-nx)), .int .i64 (bits BinOp.and IntKind.i64 nx 3)] 51)).heap.size := by rw [World.size_alloc]; omega
              clear xc
              go_wp2_with (at_builtin; refine wpList_append_lies _ rfl (.tmp 38) (.tmp 48) 48 rfl wo.heap.size 51 i1 _ 6 48 Try.underlying48 ki kz0 kz1 kz2 rfl (by decide) (.slice o5 k c5) k (ecells (rowEv L X i k)) rfl (hrow5.alloc _) ⟨wr.heap.size, 0, none⟩ 1 1 [.int .i64 0, .int .i64 0, .int .i64 nx, .int .i64 (nx / 2), .int .i64 (wrap64 (-nx)), .int .i64 (bits BinOp.and IntKind.i64 nx 3)] rfl rfl (World.news_of_block (cs := #[.int .i64 0, .int .i64 0, .int .i64 nx, .int .i64 (nx / 2), .int .i64 (wrap64 (-nx)), .int .i64 (bits BinOp.and IntKind.i64 nx 3)]) (t := 51) (fr := (0, 0)) (heap_alloc_new wr _)) (by simp [Value.oneCell']) (by decide) (by unfold maxLen; omega) (by omega) z0 (wr.heap.size + 1) (World.size_alloc _ _) ?_; intro gg cap2 w1 hown1 hgrow hat hlt)
              go_roundg (3 - (k + 1))
              case measure => omega
              case rel =>
                have hb6 : Below wo.heap.size wo w1 := hb5.trans ((((Below.refl wo.heap.size wr).alloc sz5 _)).grown hgrow (by rw [World.size_alloc]; omega) (fun j ej => (prow_lt hrow5 ej).1))
                exact ⟨k + 1, by go_num, by omega, by omega, rfl, by rw [rowEv_succ, NX.out, ecells_snoc]; exact hown1, hb6⟩
            · have Y5 := Lib.hid (And.intro hrow5 hb5)
              clear hrow5 hb5
              have hb5 := Y5.out.2
              have hrow3 : wr.ownsRow w.heap.size 48 1 (.slice o3 i c3) i us := prow_keep (e := 0) XX.out.2.2.2.1 (fun q hq => hb5.block q (prow_lt XX.out.2.2.2.1 hq).2)
              have sz5 := hb5.size
              have sz6 := XX.out.2.2.2.2.2.size
              have z0 : w.heap.size ≤ (wr.alloc (.cells #[.slice o5 k c5] 48)).heap.size := by rw [World.size_alloc]; omega
              clear hb5
              go_wp2_with (at_builtin; refine wpList_append_lies _ rfl (.tmp 50) (.tmp 52) 27 rfl w.heap.size 48 i0 _ 1 24 Try.underlying27 hi1 hz0 hz1 hz2 rfl (by decide) (.slice o3 i c3) i us rfl (hrow3.alloc _) ⟨wr.heap.size, 0, none⟩ 1 1 [.slice o5 k c5] rfl rfl (World.news_of_block (cs := #[.slice o5 k c5]) (t := 48) (fr := (0, 0)) (heap_alloc_new wr _)) (by simp [Value.oneCell']) (by decide) (by unfold maxLen; omega) (by omega) z0 (wr.heap.size + 1) (World.size_alloc _ _) ?_; intro gg cap2 w1 hown1 hgrow hat hlt)
              go_roundg (4 - (i + 1))
              case measure => omega
              case rel =>
                obtain ⟨_, _, hus, hrow, hmade, hbel⟩ := XX.out
                obtain ⟨hrow5, hb5⟩ := Y5.out
                have key : ∀ q, q < wr.heap.size → (Value.slice o3 i c3).ownBlock ≠ some q → w1.heap[q]? = wr.heap[q]? := fun q hq hne => (hgrow.block q (by rw [World.size_alloc]; omega) (fun e => hne e.symm)).trans (Below.heap_alloc wr _ q hq)
                have ek : setLen L i = k := by unfold setLen; rw [LN.out]; split <;> omega
                have hm6 := prow_low hrow5 sz6
                have hm5 : MadeSet wr w.heap.size (.slice o5 k c5) := ⟨k, _, rowEv_len L X i k, by omega, hm6⟩
                have hb6 : Below w.heap.size w w1 := (hbel.trans (hb5.mono sz6)).trans ((((Below.refl w.heap.size wr).alloc (by omega) _)).grown hgrow (by rw [World.size_alloc]; omega) (fun j ej => (prow_lt hrow3 ej).1))
                refine ⟨i + 1, us ++ [.slice o5 k c5], by go_num, by omega, by omega, rfl, by rw [List.length_append, hus]; rfl, hown1, MadeA.snoc (hmade.keep fun u hu q hq => ?_) hus (fun u hu p q hp hq => ?_) ?_, hb6⟩
                · obtain ⟨j, hj⟩ := List.getElem?_of_mem hu
                  have hm := (hmade.one hj).keep (w' := wr) (fun q hq => hb5.block q ((hmade.one hj).lt hq).2)
                  exact (key q (hm.lt hq).2 (fun e => made_apart hrow3 hm q e hq)).trans (hb5.block q ((hmade.one hj).lt hq).2)
                · obtain ⟨j, hj⟩ := List.getElem?_of_mem hu
                  exact Nat.lt_of_lt_of_le ((hmade.one hj).lt hp).2 (prow_lt hrow5 hq).1
                · rw [ek]
                  exact prow_keep (e := 0) hm6 (fun q hq => key q (hm5.lt hq).2 (fun e => made_apart hrow3 hm5 q e hq))
          · have Y5 := Lib.hid (And.intro hrow5 hb5)
            clear hrow5 hb5
            have hb5 := Y5.out.2
            have hrow3 : wr.ownsRow w.heap.size 48 1 (.slice o3 i c3) i us := prow_keep (e := 0) XX.out.2.2.2.1 (fun q hq => hb5.block q (prow_lt XX.out.2.2.2.1 hq).2)
            have sz5 := hb5.size
            have sz6 := XX.out.2.2.2.2.2.size
            have z0 : w.heap.size ≤ (wr.alloc (.cells #[.slice o5 k c5] 48)).heap.size := by rw [World.size_alloc]; omega
            clear hb5
            go_wp2_with (at_builtin; refine wpList_append_lies _ rfl (.tmp 50) (.tmp 52) 27 rfl w.heap.size 48 i0 _ 1 24 Try.underlying27 hi1 hz0 hz1 hz2 rfl (by decide) (.slice o3 i c3) i us rfl (hrow3.alloc _) ⟨wr.heap.size, 0, none⟩ 1 1 [.slice o5 k c5] rfl rfl (World.news_of_block (cs := #[.slice o5 k c5]) (t := 48) (fr := (0, 0)) (heap_alloc_new wr _)) (by simp [Value.oneCell']) (by decide) (by unfold maxLen; omega) (by omega) z0 (wr.heap.size + 1) (World.size_alloc _ _) ?_; intro gg cap2 w1 hown1 hgrow hat hlt)
            go_roundg (4 - (i + 1))
            case measure => omega
            case rel =>
              obtain ⟨_, _, hus, hrow, hmade, hbel⟩ := XX.out
              obtain ⟨hrow5, hb5⟩ := Y5.out
              have key : ∀ q, q < wr.heap.size → (Value.slice o3 i c3).ownBlock ≠ some q → w1.heap[q]? = wr.heap[q]? := fun q hq hne => (hgrow.block q (by rw [World.size_alloc]; omega) (fun e => hne e.symm)).trans (Below.heap_alloc wr _ q hq)
              have ek : setLen L i = k := by unfold setLen; rw [LN.out]; split <;> omega
              have hm6 := prow_low hrow5 sz6
              have hm5 : MadeSet wr w.heap.size (.slice o5 k c5) := ⟨k, _, rowEv_len L X i k, by omega, hm6⟩
              have hb6 : Below w.heap.size w w1 := (hbel.trans (hb5.mono sz6)).trans ((((Below.refl w.heap.size wr).alloc (by omega) _)).grown hgrow (by rw [World.size_alloc]; omega) (fun j ej => (prow_lt hrow3 ej).1))
              refine ⟨i + 1, us ++ [.slice o5 k c5], by go_num, by omega, by omega, rfl, by rw [List.length_append, hus]; rfl, hown1, MadeA.snoc (hmade.keep fun u hu q hq => ?_) hus (fun u hu p q hp hq => ?_) ?_, hb6⟩
              · obtain ⟨j, hj⟩ := List.getElem?_of_mem hu
                have hm := (hmade.one hj).keep (w' := wr) (fun q hq => hb5.block q ((hmade.one hj).lt hq).2)
                exact (key q (hm.lt hq).2 (fun e => made_apart hrow3 hm q e hq)).trans (hb5.block q ((hmade.one hj).lt hq).2)
              · obtain ⟨j, hj⟩ := List.getElem?_of_mem hu
                exact Nat.lt_of_lt_of_le ((hmade.one hj).lt hp).2 (prow_lt hrow5 hq).1
              · rw [ek]
                exact prow_keep (e := 0) hm6 (fun q hq => key q (hm5.lt hq).2 (fun e => made_apart hrow3 hm5 q e hq))
      · have X5 := Lib.hid (And.intro hus (And.intro hrow (And.intro hmade hbel)))
        clear hus hrow hmade hbel
        go_wp2
        go_ret
        have e1 := X5.out.1
        exact ⟨_, us, rfl, by rw [e1]; unfold nSets; split <;> omega, by rw [e1]; exact X5.out.2.1, X5.out.2.2⟩
    · have X5 := Lib.hid (And.intro hus (And.intro hrow (And.intro hmade hbel)))
      clear hus hrow hmade hbel
      go_wp2
      go_ret
      have e1 := X5.out.1
      exact ⟨_, us, rfl, by rw [e1]; unfold nSets; split <;> omega, by rw [e1]; exact X5.out.2.1, X5.out.2.2⟩
end Go.Proofs.Ytjfbjkgppnhaoaa
