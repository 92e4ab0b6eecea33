/-
  How many live: the iterator that living makes, and Len.
-/
import Derived.Shelf.Abstract
import Derived.Shelf.RegionOpen
import Derived.WalkKit
import Derived.OwnWalkIn
import Derived.TacticsInMore
import Derived.LoopNIn
import Derived.LoopIn
import Derived.Sort.QuietIn
import Derived.Maps.OwnIn
import Derived.Outline
import Derived.Test.YtbpcocobimdcnaaRangeT
import Derived.Test.YtbpcocobimdcnaaRa
namespace Go.Proofs.Ytbpcocobimdcnaa
open Go.ChangeShapes Go.WideShapes Go.ChangeAt Go.RowKit Go.Shelf
set_option linter.unusedVariables false
attribute [local go_sem] Oper.semAt_some

def livesAt (at_ : Int) (e : EV) : Bool := decide (e.id < at_) && (decide (e.till = -1) || decide (at_ ≤ e.till))
def RowV (w : World) (p : Option Addr) (v : Value) : Prop := (p = none ∧ v = .slice none 0 0) ∨ ∃ r, p = some ⟨r, 0, none⟩ ∧ w.cell? ⟨r, 0, none⟩ = some v
set_option maxRecDepth 100000 in
theorem row_v {w : World} {p a : Option Addr} {n c : Nat} (h : RowV w p (.slice a n c)) : Calls Try.prog 18 #[.pointer p] w fun e w' => e = .returned (.slice a n c) ∧ w' = w := by
  rcases h with ⟨rfl, h⟩ | ⟨r, rfl, hc⟩
  · cases h
    go_enter Try.func18, Try.ntmps18
    go_wp2
    go_ret
    exact ⟨rfl, rfl⟩
  · go_enter Try.func18, Try.ntmps18
    go_wp2
    go_ret
    exact ⟨rfl, rfl⟩
theorem rowV_of {w : World} {p : Option Addr} {l : List EV} (h : RollAt w p l) : ∃ v, RowV w p v ∧ ERow w v l := by
  rcases h with ⟨rfl, rfl⟩ | ⟨r, v, rfl, hc, hr⟩
  · exact ⟨_, .inl ⟨rfl, rfl⟩, World.ownsRow_nil _ _ _ _, by simp⟩
  · exact ⟨v, .inr ⟨r, rfl, hc⟩, hr⟩
theorem RowV.keep {w w' : World} {p : Option Addr} {v : Value} {B : Nat} (h : RowV w p v) (hB : ∀ r, p = some r → r.block < B) (hk : ∀ k, k < B → w'.heap[k]? = w.heap[k]?) : RowV w' p v := by
  rcases h with h | ⟨r, rfl, hc⟩
  · exact .inl h
  · exact .inr ⟨r, rfl, (World.cell?_of_block (w := w) (hk r (hB _ rfl))).trans hc⟩
theorem RowV.lt {w : World} {p : Option Addr} {v : Value} (h : RowV w p v) : ∀ r, p = some r → r.block < w.heap.size := fun r e => by
  rcases h with ⟨rfl, _⟩ | ⟨r', rfl, hc⟩
  · cases e
  · cases e
    exact block_lt_of_cell hc
def KL (s B1 B2 : Nat) (W W' : World) : Prop := W.heap.size ≤ W'.heap.size ∧ ∀ k, k < s ∨ k = B1 ∨ k = B2 → W'.heap[k]? = W.heap[k]?
theorem kl_t {s B1 B2 : Nat} {A B C : World} (h : KL s B1 B2 A B) (k : KL s B1 B2 B C) : KL s B1 B2 A C := ⟨Nat.le_trans h.1 k.1, fun i hi => (k.2 i hi).trans (h.2 i hi)⟩
theorem kl_b {s B1 B2 : Nat} {w : World} (hs : s ≤ w.heap.size) (h1 : B1 < w.heap.size) (h2 : B2 < w.heap.size) (W : World) (l : Nat) (o o' : Obj) (hl : w.heap.size ≤ l) (h : W.heap[l]? = some o) (ho : o.isCells = false) : KL s B1 B2 W (W.putObj l o') :=
  ⟨(grownBy_putObj' W l o').size, fun k hk => World.putObj_heap_other (fun e => by omega)⟩
theorem kl_alloc {s B1 B2 : Nat} (W : World) (o : Obj) (hs : s ≤ W.heap.size) (h1 : B1 < W.heap.size) (h2 : B2 < W.heap.size) : KL s B1 B2 W (W.alloc o) := ⟨by simp, fun k hk => Below.heap_alloc W o k (by omega)⟩
def encE (e : EV) : Array Value := #[.agg #[.int .i64 e.id, .int .i64 e.till, e.cs, .int .i64 e.win, .bool false]]
def LvRel (at_ : Int) (l : List EV) (s B1 B2 : Nat) (w0 : World) (J : List EV → World → Prop) (v : Value) (wr : World) : Prop :=
  ∃ k : Nat, v = .int .i64 (k : Int) ∧ k ≤ l.length ∧ J ((l.take k).filter (livesAt at_)) wr ∧ KL s B1 B2 w0 wr
def intOf : Value → Int
  | .int _ x => x
  | _ => 0
theorem take_yes {l : List EV} {k : Nat} {e : EV} {at_ : Int} (h : l[k]? = some e) (hl : livesAt at_ e = true) : (l.take (k + 1)).filter (livesAt at_) = (l.take k).filter (livesAt at_) ++ [e] := by
  rw [List.take_add_one, h, List.filter_append]
  simp [hl]
theorem take_no {l : List EV} {k : Nat} {e : EV} {at_ : Int} (h : l[k]? = some e) (hl : livesAt at_ e = false) : (l.take (k + 1)).filter (livesAt at_) = (l.take k).filter (livesAt at_) := by
  rw [List.take_add_one, h, List.filter_append]
  simp [hl]
theorem filt_lt {l : List EV} {k : Nat} {e : EV} {at_ : Int} (h : l[k]? = some e) (hl : livesAt at_ e = true) : ((l.take k).filter (livesAt at_)).length < (l.filter (livesAt at_)).length := by
  have h1 : l = l.take (k + 1) ++ l.drop (k + 1) := (List.take_append_drop _ _).symm
  have h2 := congrArg (fun z => (z.filter (livesAt at_)).length) h1
  simp only [List.filter_append, List.length_append, take_yes h hl, List.length_singleton] at h2
  omega

set_option maxRecDepth 100000 in
set_option maxHeartbeats 2000000 in
theorem living_in (n : Nat) (hn : 1 ≤ n) (lo s B1 B2 : Nat) {ty : TypeId} {at_ : Int} {p a : Option Addr} {l : List EV} {cap : Nat} {W : World} (hc : s ≤ W.heap.size) (hB1 : B1 < W.heap.size) (hB2 : B2 < W.heap.size) (hV : RowV W p (.slice a l.length cap)) (hpc : ∀ r, p = some r → r.block < s)
    (hR : ERow W (.slice a l.length cap) l) (hvc : ∀ g, (Value.slice a l.length cap).ownBlock = some g → g < s) (b1 : W.cell? ⟨B1, 0, none⟩ = some (.pointer p)) (b2 : W.cell? ⟨B2, 0, none⟩ = some (.int .i64 at_)) (hcs : ∀ e ∈ l, ∃ a n c, e.cs = .slice a n c)
    (J : List EV → World → Prop) (hJ : BearsT ty W.heap.size J)
    (hY : ∀ pre x W1, J pre W1 → pre.length < (l.filter (livesAt at_)).length → x ∈ l → YieldAt Fence.wide (n - 1) Try.prog lo (encE x) W1 fun en W' => en = .returned (.bool true) ∧ J (pre ++ [x]) W' ∧ KL s B1 B2 W1 W')
    (h0 : J [] W) :
    CallsIn Fence.wide n Try.prog 38 #[.func (.yield lo) #[] #[], .pointer (some ⟨B1, 0, none⟩), .pointer (some ⟨B2, 0, none⟩)] W fun en W' => (∃ v, en = .returned v) ∧ J (l.filter (livesAt at_)) W' := by
  have RV := Lib.hid (row_v hV)
  have IN := Lib.hid (And.intro hR (And.intro hJ (And.intro hY (And.intro hvc hcs))))
  have I0 : LvRel at_ l s B1 B2 W J (.int .i64 0) W := ⟨0, rfl, Nat.zero_le _, h0, Nat.le_refl _, fun _ _ => rfl⟩
  have hl := hR.lt
  clear hV hR hJ hY hvc hcs h0 hpc
  refine callsIn_of_wp Try.func38 rfl trivial ?_ rfl
  simp only [Try.ntmps38, List.size_toArray, List.length_cons, List.length_nil, Nat.reduceAdd, Nat.reduceSub, Array.replicate_succ, Array.replicate_zero, List.push_toArray, List.append_toArray, List.nil_append, List.cons_append]
  gi_wp2_with fail
  refine ⟨trivial, ?_⟩
  refine (callsIn_wide.2 RV.out).mono ?_
  rintro e w1 ⟨rfl, rfl⟩
  clear RV
  gi_wp2_with fail
  gi_loopw [9] (fun v wr => LvRel at_ l s B1 B2 w1 J v wr) (fun v _ => l.length - (intOf v).toNat)
  case atStart => exact I0
  case round =>
    clear I0
    obtain ⟨k, rfl, hk, hJs, hnx⟩ := hrel
    by_cases hkl : k < l.length
    · obtain ⟨⟨id, till, cs, win, o⟩, hx⟩ : ∃ q, l[k]? = some q := ⟨_, List.getElem?_eq_getElem hkl⟩
      obtain ⟨ca, cn, cc, hcs⟩ := IN.out.2.2.2.2 _ (List.mem_of_getElem? hx)
      dsimp only at hcs
      subst hcs
      obtain ⟨a', c', e1, e2⟩ := own_slice IN.out.1.own
      injection e1 with e1 _ e3
      subst e3
      obtain ⟨g, hg⟩ := e2 (by omega)
      rw [hg] at e1
      subst e1
      have hgc : g < s := IN.out.2.2.2.1 g rfl
      have ro : wr.ownsRow 0 48 5 (.slice (some ⟨g, 0, none⟩) l.length cap) l.length (ecells l) := own_keep IN.out.1.own (fun q hq => hnx.2 q (.inl (IN.out.2.2.2.1 q hq)))
      obtain ⟨x0, x1, x2, x3, x4⟩ := ecells_at l k _ hx
      have y0 := (ro.cellAt (k * 5) (by omega)).trans x0
      have y1 := (ro.cellAt (k * 5 + 1) (by omega)).trans x1
      have y2 := (ro.cellAt (k * 5 + 2) (by omega)).trans x2
      have y3 := (ro.cellAt (k * 5 + 3) (by omega)).trans x3
      have y4 := (ro.cellAt (k * 5 + 4) (by omega)).trans x4
      dsimp only at y0 y1 y2 y3 y4
      have z2 : wr.cell? ⟨B2, 0, none⟩ = some (.int .i64 at_) := (World.cell?_of_block (w := w1) (hnx.2 B2 (.inr (.inr rfl)))).trans b2
      have z2' : (wr.alloc (.cells #[.int .i64 id, .int .i64 till, .slice ca cn cc, .int .i64 win, .bool false] 48)).cell? ⟨B2, 0, none⟩ = some (.int .i64 at_) := (World.cell?_of_block (w := wr) (Below.heap_alloc wr _ _ (by have := hnx.1; show B2 < _; omega))).trans z2
      have hk1 : (k : Int) < (l.length : Int) := by omega
      have hk0 : (0 : Int) ≤ (k : Int) := by omega
      have hws := hnx.1
      have J2 : J ((l.take k).filter (livesAt at_)) (wr.alloc (.cells #[.int .i64 id, .int .i64 till, .slice ca cn cc, .int .i64 win, .bool false] 48)) := IN.out.2.1 _ _ _ none hJs (World.grownBy_alloc wr _ none) (fun r e => by cases e)
      have K2 := kl_t hnx (kl_alloc wr (.cells #[.int .i64 id, .int .i64 till, .slice ca cn cc, .int .i64 win, .bool false] 48) (by omega) (by omega) (by omega))
      have X := Lib.hid (And.intro hx (And.intro J2 K2))
      clear x0 x1 x2 x3 x4 ro hx hJs hnx J2 K2 b1 b2
      have no : livesAt at_ ⟨id, till, .slice ca cn cc, win, o⟩ = false → LvRel at_ l s B1 B2 w1 J (.int .i64 ((k + 1 : Nat) : Int)) (wr.alloc (.cells #[.int .i64 id, .int .i64 till, .slice ca cn cc, .int .i64 win, .bool false] 48)) := fun h =>
        ⟨k + 1, rfl, by omega, by rw [take_no X.out.1 h]; exact X.out.2.1, X.out.2.2⟩
      have yes : livesAt at_ ⟨id, till, .slice ca cn cc, win, o⟩ = true → YieldAt Fence.wide (n - 1) Try.prog lo #[.agg #[.int .i64 id, .int .i64 till, .slice ca cn cc, .int .i64 win, .bool false]] (wr.alloc (.cells #[.int .i64 id, .int .i64 till, .slice ca cn cc, .int .i64 win, .bool false] 48)) fun en W' => en = .returned (.bool true) ∧ LvRel at_ l s B1 B2 w1 J (.int .i64 ((k + 1 : Nat) : Int)) W' := fun h => by
        obtain ⟨fn, tmps, assign, body, hy, hRd⟩ := IN.out.2.2.1 _ ⟨id, till, .slice ca cn cc, win, o⟩ _ X.out.2.1 (filt_lt X.out.1 h) (List.mem_of_getElem? X.out.1)
        exact ⟨fn, tmps, assign, body, hy, hRd.mono fun en W' hp => ⟨hp.1, k + 1, rfl, by omega, by rw [take_yes X.out.1 h]; exact hp.2.1, kl_t X.out.2.2 hp.2.2⟩⟩
      have NO := Lib.hid no
      have YES := Lib.hid yes
      clear no yes X
      have hc1 : intOf (.int .i64 ((k + 1 : Nat) : Int)) = (k : Int) + 1 := by simp [intOf]
      have lv : livesAt at_ ⟨id, till, .slice ca cn cc, win, o⟩ = (decide (id < at_) && (decide (till = -1) || decide (at_ ≤ till))) := rfl
      by_cases h1 : id < at_
      · by_cases h2 : till = -1
        · subst h2
          have t1 : decide (id < at_) = true := by simpa using h1
          obtain ⟨fn, tmps, assign, body, hy, hRd⟩ := YES.out (by rw [lv, t1]; rfl)
          have HR := Lib.hid hRd
          clear hRd NO YES lv
          gi_wp2_with fail
          refine HR.out.mono ?_
          rintro e W3 ⟨rfl, hR3⟩
          have R3 := Lib.hid hR3
          clear hR3
          gi_wp2
          go_roundw
          case rel => exact R3.out
          case measure => simp [intOf]; omega
        · have t1 : decide (id < at_) = true := by simpa using h1
          have t2 : (till == -1) = false := by simpa using h2
          have t2' : decide (till = -1) = false := by simpa using h2
          by_cases h3 : at_ ≤ till
          · have t3 : decide (at_ ≤ till) = true := by simpa using h3
            obtain ⟨fn, tmps, assign, body, hy, hRd⟩ := YES.out (by rw [lv, t1, t2', t3]; rfl)
            have HR := Lib.hid hRd
            clear hRd NO YES lv
            gi_wp2_with fail
            refine HR.out.mono ?_
            rintro e W3 ⟨rfl, hR3⟩
            have R3 := Lib.hid hR3
            clear hR3
            gi_wp2
            go_roundw
            case rel => exact R3.out
            case measure => simp [intOf]; omega
          · have t3 : decide (at_ ≤ till) = false := by simpa using h3
            have R3 := Lib.hid (NO.out (by rw [lv, t1, t2', t3]; rfl))
            clear NO YES lv
            gi_wp2
            refine ⟨fun f hf => (by cases hf), ?_⟩
            gi_wp2
            go_roundw
            case rel => exact R3.out
            case measure => simp [intOf]; omega
      · have t1 : decide (id < at_) = false := by simpa using h1
        have R3 := Lib.hid (NO.out (by rw [lv, t1]; rfl))
        clear NO YES lv
        gi_wp2
        refine ⟨fun f hf => (by cases hf), ?_⟩
        gi_wp2
        go_roundw
        case rel => exact R3.out
        case measure => simp [intOf]; omega
    · have e : l.take k = l := List.take_of_length_le (by omega)
      rw [e] at hJs
      have X := Lib.hid hJs
      clear hJs e
      gi_wp2
      go_end0
      exact ⟨⟨_, rfl⟩, X.out⟩
end Go.Proofs.Ytbpcocobimdcnaa
