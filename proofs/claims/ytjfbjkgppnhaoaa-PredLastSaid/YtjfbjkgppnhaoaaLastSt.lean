/-
  Sets whose events but the last ones are written over: what they are reckoned to stays.
-/
import Derived.Test.YtjfbjkgppnhaoaaSetsA
import Derived.Test.YtjfbjkgppnhaoaaArgX
import Derived.Deep.MidRow
namespace Go.Proofs.Ytjfbjkgppnhaoaa
open Go.ChangeShapes Go.WideShapes Go.ChangeAt Go.RowKit
set_option linter.unusedVariables false

theorem below_setCells {B : Nat} {W : World} (g : Nat) (hg : B ≤ g) : ∀ (vs : List Value) (o : Nat) (w : World), Below B W w → Below B W (w.setCells g o vs)
  | [], o, w, h => h
  | v :: r, o, w, h => below_setCells g hg r (o + 1) _ (h.setCell (p := ⟨g, o, none⟩) hg v)
theorem row_there {w : World} {base g n size c : Nat} {t : TypeId} {xs : List Value} (h : w.ownsRow base t size (.slice (some ⟨g, 0, none⟩) n c) n xs) : w.there g 0 (n * size) := fun j hj => by
  rw [Nat.zero_add]
  have h1 := h.cellAt j hj
  refine ⟨by rw [h1, List.getElem?_eq_getElem (by rw [h.1]; exact hj)]; rfl, ?_⟩
  rcases h.2 with ⟨e, _⟩ | ⟨g', cap, cur, e, hg, hgg, _⟩
  · simp at e
  · simp only [Value.slice.injEq, Option.some.injEq, Addr.mk.injEq, and_true, true_and] at e
    obtain ⟨e1, e2⟩ := e
    subst e1
    simp [World.frozen?, hgg]
structure TSt (W : World) (ta : Option Addr) (m : Nat) (L : Nat → Nat) (env : Env) (g : Nat) (EA : Nat → Option Addr) (H C : Nat → Nat) (w : World) : Prop where
  bel : Below W.heap.size W w
  m4 : m ≤ 4
  out : ∀ p : Int, (p < 0 ∨ (m : Int) ≤ p) → env.cnt p = 0
  base : 0 < m → ta = some ⟨g, 0, none⟩
  row : ∀ j, j < m → w.cell? ⟨g, j, none⟩ = some (.slice (EA j) (setLen L j) (C j)) ∧ env.cnt (j : Int) = ((setLen L j : Nat) : Int)
  ea : ∀ j, j < m → 0 < setLen L j → EA j = some ⟨H j, 0, none⟩ ∧ W.heap.size ≤ H j ∧ H j ≠ g
  apart : ∀ i j, i < m → j < m → 0 < setLen L i → 0 < setLen L j → i ≠ j → H i ≠ H j
  there : ∀ j, j < m → 0 < setLen L j → w.there (H j) 0 (setLen L j * 6)
  last : ∀ j, j < m → 0 < setLen L j → ∀ f : Nat, f < 4 → w.cell? ⟨H j, (setLen L j - 1) * 6 + 2 + f, none⟩ = some (.int .i64 (env.last (j : Int) (f : Int)))
section
variable {W w w' : World} {ta : Option Addr} {m g : Nat} {L : Nat → Nat} {env : Env} {EA : Nat → Option Addr} {H C : Nat → Nat}
theorem TSt.envAt (h : TSt W ta m L env g EA H C w) : EnvAt w ta m env :=
  ⟨by have := h.m4; omega, h.out, fun k hk => by
    obtain ⟨h1, h2⟩ := h.row k hk
    refine ⟨g, EA k, setLen L k, C k, h.base (by omega), h1, h2, ⟨by have := setLen_le L k; omega, fun hn => ?_⟩⟩
    exact ⟨H k, (h.ea k hk hn).1, fun f hf => h.last k hk hn f hf⟩⟩
/-- An event that is not the last one is written over. -/
theorem TSt.put (h : TSt W ta m L env g EA H C w) {i k : Nat} (hi : i < m) (hk : k + 1 < setLen L i) (vs : List Value) (hv : vs.length = 6) : TSt W ta m L env g EA H C (w.setCells (H i) (k * 6) vs) := by
  have hn : 0 < setLen L i := by omega
  obtain ⟨_, hb, hg⟩ := h.ea i hi hn
  refine ⟨below_setCells _ hb _ _ _ h.bel, h.m4, h.out, h.base, fun j hj => ⟨?_, (h.row j hj).2⟩, h.ea, h.apart, fun j hj hn' => World.there_setCells (h.there j hj hn') _ _ _, fun j hj hn' f hf => ?_⟩
  · rw [World.cell?_setCells_out _ _ _ _ _ (fun e _ => absurd e (fun e => hg e.symm))]
    exact (h.row j hj).1
  · rw [World.cell?_setCells_out _ _ _ _ _ (fun e _ => ?_)]
    · exact h.last j hj hn' f hf
    · by_cases e2 : i = j
      · subst e2
        right
        show k * 6 + vs.length ≤ (setLen L i - 1) * 6 + 2 + f
        omega
      · exact absurd e.symm (h.apart i j hi hj hn hn' e2)
end
def eaOf (us : List Value) (j : Nat) : Option Addr := match us[j]? with | some (.slice ea _ _) => ea | _ => none
def caOf (us : List Value) (j : Nat) : Nat := match us[j]? with | some (.slice _ _ c) => c | _ => 0
def blOf (us : List Value) (j : Nat) : Nat := match eaOf us j with | some a => a.block | none => 0
theorem sets_t {w0 w : World} {a : Option Addr} {len : Nat} {L : Nat → Nat} {X : Nat → Nat → Int} (h : RowsX w0 a len L X) (hb : Below w0.heap.size w0 w) (cap : Nat) :
    Calls Try.prog 15 #[.slice a len cap] w fun e w' => ∃ ta c g EA H C, e = .returned (.slice ta (nSets len) c) ∧ TSt w ta (nSets len) L (envOf (lsOf len L X)) g EA H C w' :=
  (sets_own_a (h.keep hb)).mono fun e w' ⟨v, us, he, hm, hrow, hmade, hb⟩ => by
    have hs : SetsAt w' w.heap.size v us (lsOf len L X) := by
      refine ⟨hrow, by simp [lsOf, hm], by rw [hm]; unfold nSets; split <;> omega, fun j u l hu hl => ?_⟩
      have hj := (List.getElem?_eq_some_iff.1 hu).1
      unfold lsOf at hl
      rw [List.getElem?_map, List.getElem?_range (by omega)] at hl
      simp only [Option.map_some, Option.some.injEq] at hl
      subst hl
      rw [rowEv_len]
      exact ⟨hmade.1 j u hu, setLen_le L j⟩
    obtain ⟨ta, c, rfl, hE⟩ := hs.env
    obtain ⟨ta', c', e2, hg⟩ := prow_slice hrow
    injection e2 with e2 _ _
    subst e2
    rw [← hm]
    -- one set
    have key : ∀ j, j < us.length → us[j]? = some (.slice (eaOf us j) (setLen L j) (caOf us j)) ∧ (0 < setLen L j → eaOf us j = some ⟨blOf us j, 0, none⟩) := fun j hj => by
      obtain ⟨u, hu⟩ : ∃ u, us[j]? = some u := ⟨_, List.getElem?_eq_getElem hj⟩
      obtain ⟨ea, cu, rfl, hh⟩ := prow_slice (hmade.1 j u hu)
      have e1 : eaOf us j = ea := by simp [eaOf, hu]
      have e2 : caOf us j = cu := by simp [caOf, hu]
      refine ⟨by rw [e1, e2]; exact hu, fun hn => ?_⟩
      obtain ⟨h, rfl⟩ := hh hn
      have e3 : blOf us j = h := by simp [blOf, e1]
      rw [e1, e3]
    obtain ⟨g, hg'⟩ : ∃ g, 0 < us.length → ta = some ⟨g, 0, none⟩ := by
      by_cases h0 : 0 < us.length
      · obtain ⟨g, hh⟩ := hg h0
        exact ⟨g, fun _ => hh⟩
      · exact ⟨0, fun h => absurd h h0⟩
    refine ⟨ta, c, g, eaOf us, blOf us, caOf us, he, hb, hs.m4, hE.out, hg', fun j hj => ?_, fun j hj hn => ?_, fun i j hi hj hni hnj hne => ?_, fun j hj hn => ?_, fun j hj hn f hf => ?_⟩
    · obtain ⟨g2, ea, n, cc, f1, f2, f3, f4⟩ := hE.at_ j hj
      have eg := (hg' (by omega)).symm.trans f1
      injection eg with eg
      injection eg with eg _
      subst eg
      have f5 : w'.cell? ⟨g, j, none⟩ = us[j]? := by
        have hrow' := hrow
        rw [hg' (by omega)] at hrow'
        exact hrow'.cellAt j (by omega)
      have f6 := f5.symm.trans f2
      rw [(key j hj).1] at f6
      injection f6 with f6
      injection f6 with f6 f7 f8
      refine ⟨by rw [f5]; exact (key j hj).1, ?_⟩
      rw [f3, f7]
    · have hr := hmade.1 j _ (key j hj).1
      have ob : (Value.slice (eaOf us j) (setLen L j) (caOf us j)).ownBlock = some (blOf us j) := by rw [(key j hj).2 hn]; rfl
      refine ⟨(key j hj).2 hn, (prow_lt hr ob).1, fun e => ?_⟩
      refine made_apart hrow (hmade.one (key j hj).1) (blOf us j) ?_ ob
      rw [hg' (by omega), e]
      rfl
    · have oi : (Value.slice (eaOf us i) (setLen L i) (caOf us i)).ownBlock = some (blOf us i) := by rw [(key i hi).2 hni]; rfl
      have oj : (Value.slice (eaOf us j) (setLen L j) (caOf us j)).ownBlock = some (blOf us j) := by rw [(key j hj).2 hnj]; rfl
      rcases Nat.lt_or_gt_of_ne hne with e | e
      · have := hmade.2 i j _ _ _ _ e (key i hi).1 (key j hj).1 oi oj
        omega
      · have := hmade.2 j i _ _ _ _ e (key j hj).1 (key i hi).1 oj oi
        omega
    · have hr := hmade.1 j _ (key j hj).1
      rw [(key j hj).2 hn] at hr
      exact row_there hr
    · obtain ⟨g2, ea, n, cc, f1, f2, f3, f4⟩ := hE.at_ j hj
      have eg := (hg' (by omega)).symm.trans f1
      injection eg with eg
      injection eg with eg _
      subst eg
      have f5 : w'.cell? ⟨g, j, none⟩ = us[j]? := by
        have hrow' := hrow
        rw [hg' (by omega)] at hrow'
        exact hrow'.cellAt j (by omega)
      have f6 := f5.symm.trans f2
      rw [(key j hj).1] at f6
      injection f6 with f6
      injection f6 with f6 f7 f8
      obtain ⟨b, e1, e2⟩ := f4.at_ (by omega)
      have e3 := (key j hj).2 hn
      rw [f6, e1] at e3
      injection e3 with e3
      injection e3 with e3 _
      have := e2 f hf
      rw [← f7, e3] at this
      exact this
end Go.Proofs.Ytjfbjkgppnhaoaa
