/-
  Live's iterator: it ranges over living's, and tells copies.
-/
import Derived.Test.YtbpcocobimdcnaaRangeR
import Derived.Test.YtbpcocobimdcnaaRnL
import Derived.Test.YtbpcocobimdcnaaRf
namespace Go.Proofs.Ytbpcocobimdcnaa
open Go.ChangeShapes Go.WideShapes Go.ChangeAt Go.RowKit Go.Shelf
set_option linter.unusedVariables false
attribute [local go_sem] Oper.semAt_some

def EV.key (e : EV) : Int × Int × Int × Option Int := (e.id, e.till, e.win, e.o)
def SameL (ys xs : List EV) : Prop := ys.map EV.key = xs.map EV.key
/-- What the rounds of one who takes entries leave: all below s, and all boxes. -/
structure KB (s : Nat) (W W' : World) : Prop where
  os : W'.os = W.os
  tape : W'.tape = W.tape
  output : W'.output = W.output
  size : W.heap.size ≤ W'.heap.size
  keep : ∀ k, (k < s ∨ ∃ cs q t, W.heap[k]? = some (.cells cs t q) ∧ (t = 24 ∨ t = 3 ∨ t = 85)) → W'.heap[k]? = W.heap[k]?
theorem kb_t {s : Nat} {A B C : World} (h : KB s A B) (k : KB s B C) : KB s A C := ⟨k.os.trans h.os, k.tape.trans h.tape, k.output.trans h.output, Nat.le_trans h.size k.size, fun i hi => by
  have e := h.keep i hi
  refine (k.keep i ?_).trans e
  rcases hi with hi | ⟨cs, q, t, h1, h2⟩
  · exact .inl hi
  · exact .inr ⟨cs, q, t, e.trans h1, h2⟩⟩
theorem living_givesR (n : Nat) (hn : 1 ≤ n) {e : TypeId} {w W : World} {B1 B2 : Nat} {p : Option Addr} {l : List EV} {at_ : Int} (h : RollS w p l) (hB : Below w.heap.size w W) (h1 : B1 < W.heap.size) (h2 : B2 < W.heap.size)
    (b1 : W.cell? ⟨B1, 0, none⟩ = some (.pointer p)) (b2 : W.cell? ⟨B2, 0, none⟩ = some (.int .i64 at_)) :
    GivesR e n Try.prog 38 #[.pointer (some ⟨B1, 0, none⟩), .pointer (some ⟨B2, 0, none⟩)] encE (KL w.heap.size B1 B2) (fun ys => ys = l.filter (livesAt at_)) (fun x _ => x ∈ l) (l.filter (livesAt at_)).length W := fun lo J V hV hJ hY h0 => by
  obtain ⟨v, hv, hr⟩ := rowV_of h.at_
  obtain ⟨a, c, rfl, _⟩ := own_slice hr.own
  have z := hB.size
  have hwV : Below w.heap.size w V := hB.trans (hV.mono z)
  have kp : ∀ k, k < w.heap.size → V.heap[k]? = w.heap[k]? := fun k hk => hwV.block k hk
  have := hV.size
  have lt : ∀ g, (Value.slice a l.length c).ownBlock = some g → g < w.heap.size := fun g hg => (hr.own.lt g hg).2
  refine (living_in n hn lo w.heap.size B1 B2 (ty := e) (by omega) (by omega) (by omega) (hv.keep hv.lt kp) hv.lt ⟨own_keep hr.own fun k hk => kp k (lt k hk), hr.lt⟩ lt
    ((World.cell?_of_block (w := W) (hV.block _ h1)).trans b1) ((World.cell?_of_block (w := W) (hV.block _ h2)).trans b2)
    (fun e he => plain_slice (h.tabs e he)) J (fun s A B row q1 q2 q3 => hJ s A B row q1 q2 fun r hr => by
      obtain ⟨m, cs, q, hh⟩ := q3 r hr
      exact ⟨m, _, hh, .inl ⟨cs, q, rfl⟩⟩) (fun pre x W1 q1 q2 q3 => by
      obtain ⟨fn, t, a, b, hy, hr⟩ := hY pre x W1 q1 q2 q3
      exact ⟨fn, t, a, b, hy, hr.mono fun en W' h => ⟨h.1, h.2.1, h.2.2.1⟩⟩) h0).mono ?_
  rintro en W' ⟨r1, r2⟩
  exact ⟨r1, _, rfl, r2⟩
theorem roundIn_wide {n m l2 l : Nat} {P : Program} {f : FuncId} {tmps : Array Value} {assign body : Code} {w : World} {R : Ending → World → Prop} (h : RoundIn Fence.wide n P l f tmps assign body w R) : RoundIn (Fence.wide.inRound l2) m P l f tmps assign body w R :=
  ⟨trivial, fun c cs _ => h.2 c cs (room_wide _)⟩
/-- Within Live's iterator: what was told, of those who were met. -/
def LvI (s c lo : Nat) (p : Option Addr) (at_ : Int) (J : List EV → World → Prop) (w : World) (pre : List EV) (W : World) : Prop :=
  (∃ ys, SameL ys pre ∧ J ys W) ∧ Boxed W c 85 (.func (.yield lo) #[] #[]) ∧ Boxed W (c + 1) 24 (.pointer p) ∧ Boxed W (c + 2) 3 (.int .i64 at_) ∧ Below s w W
set_option maxRecDepth 100000 in
set_option maxHeartbeats 2000000 in
theorem live1_in (n : Nat) (hn : 8 ≤ n) (lo : Nat) {e : TypeId} {w W : World} {B1 B2 : Nat} {p : Option Addr} {l : List EV} {at_ : Int} (h : RollS w p l) (hB : Below w.heap.size w W)
    (b1 : W.cell? ⟨B1, 0, none⟩ = some (.pointer p)) (b2 : W.cell? ⟨B2, 0, none⟩ = some (.int .i64 at_)) (J : List EV → World → Prop) (hJ : BearsR e W.heap.size J)
    (hY : ∀ pre x W1, J pre W1 → pre.length < (l.filter (livesAt at_)).length → PlainTab 0 W1 x.cs x.o → YieldAt Fence.wide (n - 1) Try.prog lo (encE x) W1 fun en W' => en = .returned (.bool true) ∧ J (pre ++ [x]) W' ∧ KB w.heap.size W1 W' ∧ KeepsFrom W.heap.size W1 W') (h0 : J [] W) :
    CallsIn Fence.wide n Try.prog 39 #[.func (.yield lo) #[] #[], .pointer (some ⟨B1, 0, none⟩), .pointer (some ⟨B2, 0, none⟩)] W fun en W' => (∃ v, en = .returned v) ∧ ∃ ys, SameL ys (l.filter (livesAt at_)) ∧ J ys W' := by
  have h1 : 1 ≤ n := by omega
  have bO := Boxed.new W 85 (.func (.yield lo) #[] #[])
  have MK := Lib.hid (living_mk (W.alloc (.cells #[.func (.yield lo) #[] #[]] 85)) p at_)
  obtain ⟨V, hV⟩ : ∃ V, V = ((W.alloc (.cells #[.func (.yield lo) #[] #[]] 85)).alloc (.cells #[.pointer p] 24)).alloc (.cells #[.int .i64 at_] 3) := ⟨_, rfl⟩
  have z := hB.size
  have hBV : Below w.heap.size w V := by
    rw [hV]
    exact ((hB.alloc z _).alloc (by simp; omega) _).alloc (by simp; omega) _
  have hz : V.heap.size = W.heap.size + 3 := by rw [hV]; simp
  have bV : Boxed V W.heap.size 85 (.func (.yield lo) #[] #[]) := by
    rw [hV]
    exact (bO.alloc _).alloc _
  have v1 : Boxed V (W.heap.size + 1) 24 (.pointer p) := by
    rw [hV]
    have := Boxed.alloc (Boxed.new (W.alloc (.cells #[.func (.yield lo) #[] #[]] 85)) 24 (.pointer p)) (.cells #[.int .i64 at_] 3)
    rw [World.size_alloc] at this
    exact this
  have v2 : Boxed V (W.heap.size + 2) 3 (.int .i64 at_) := by
    rw [hV]
    have := Boxed.new ((W.alloc (.cells #[.func (.yield lo) #[] #[]] 85)).alloc (.cells #[.pointer p] 24)) 3 (.int .i64 at_)
    rw [World.size_alloc, World.size_alloc] at this
    exact this
  have q1 := v1.cell
  have q2 := v2.cell
  have J1 : J [] V := by
    rw [hV]
    refine hJ _ _ _ none (hJ _ _ _ none (hJ _ _ _ none h0 (World.grownBy_alloc _ _ none) ?_) (World.grownBy_alloc _ _ none) ?_) (World.grownBy_alloc _ _ none) ?_
    all_goals exact fun r e => by cases e
  have GV := Lib.hid (living_givesR (n - 1) (by omega) (e := e) h hBV (by omega) (by omega) q1 q2)
  have IN := Lib.hid (And.intro hJ (And.intro hY (And.intro h.tabs hB)))
  have II := Lib.hid (show LvI w.heap.size W.heap.size lo p at_ J w [] V from ⟨⟨[], rfl, J1⟩, bV, v1, v2, hBV⟩)
  have hb1 : B1 < W.heap.size := block_lt_of_cell b1
  have hb2 : B2 < W.heap.size := block_lt_of_cell b2
  have c1 : (W.alloc (.cells #[.func (.yield lo) #[] #[]] 85)).cell? ⟨B1, 0, none⟩ = some (.pointer p) := (World.cell?_of_block (w := W) (Below.heap_alloc W _ _ hb1)).trans b1
  have c2 : (W.alloc (.cells #[.func (.yield lo) #[] #[]] 85)).cell? ⟨B2, 0, none⟩ = some (.int .i64 at_) := (World.cell?_of_block (w := W) (Below.heap_alloc W _ _ hb2)).trans b2
  clear h bO hB hBV q1 q2 bV v1 v2 hJ hY h0 J1
  refine callsIn_of_wp_marks Try.func39 rfl trivial ?_ rfl
  simp only [Try.ntmps39, List.size_toArray, List.length_cons, List.length_nil, Nat.reduceAdd, Nat.reduceSub, Array.replicate_succ, Array.replicate_zero, List.push_toArray, List.append_toArray, List.nil_append, List.cons_append]
  gi_wp2_with fail
  refine ⟨trivial, ?_⟩
  refine (callsIn_wide.2 MK.out).mono ?_
  rintro en w1 ⟨rfl, e1⟩
  rw [← hV] at e1
  subst e1
  clear MK hV
  simp only [World.size_alloc]
  gi_wp2_with fail
  refine range_tR h1 (gf := 38) (lb := #[.pointer (some ⟨W.heap.size + 1, 0, none⟩), .pointer (some ⟨W.heap.size + 2, 0, none⟩)]) rfl (enters_of Try.func38 (by kernel_rfl) rfl) GV.out (Below.refl _ _) (fun _ => rfl) kl_t (kl_b (by omega) (by omega) (by omega)) (LvI w.heap.size W.heap.size lo p at_ J w) ?own ?bears (fun x V o h => h) (fun x V l o o' h _ _ => h) II.out
    (fun x k => { tmps := #[.func (.yield lo) #[] #[], .pointer (some ⟨B1, 0, none⟩), .pointer (some ⟨B2, 0, none⟩), .pointer (some ⟨W.heap.size, 0, none⟩), .pointer (some ⟨k, 0, none⟩), .pointer p, .int .i64 at_, .func (.func 38) #[] #[.pointer (some ⟨W.heap.size + 1, 0, none⟩), .pointer (some ⟨W.heap.size + 2, 0, none⟩)], x.val, undef, undef, undef, undef, undef], defers := [] })
    (fun x => .cells x.cells.toArray 48) ?ka ?assign ?body ?done
  case ka => exact fun V x hz2 => kl_alloc _ _ (by omega) (by omega) (by omega)
  case own =>
    rintro s A B row ⟨⟨ys, hs, hj⟩, hb, hb1', hb2', hB⟩ hg hr
    exact ⟨⟨ys, hs, IN.out.1 _ _ _ row hj hg fun r e => by
      obtain ⟨m, o, g1, g2⟩ := hr r e
      exact ⟨by omega, o, g1, .inr g2⟩⟩, hb.kept hg (fun e => by have := (hr _ e.symm).1; omega), hb1'.kept hg (fun e => by have := (hr _ e.symm).1; omega), hb2'.kept hg (fun e => by have := (hr _ e.symm).1; omega), hB.grown hg hB.size (fun r e => by have := (hr r e).1; omega)⟩
  case bears =>
    rintro s A B row ⟨⟨ys, hs, hj⟩, hb, hb1', hb2', hB⟩ hg hr
    exact ⟨⟨ys, hs, IN.out.1 _ _ _ row hj hg fun r e => by
      obtain ⟨m, o, g1, g2⟩ := hr r e
      exact ⟨by omega, o, g1, g2⟩⟩, hb.kept hg (fun e => by have := (hr _ e.symm).1; omega), hb1'.kept hg (fun e => by have := (hr _ e.symm).1; omega), hb2'.kept hg (fun e => by have := (hr _ e.symm).1; omega), hB.grown hg hB.size (fun r e => by have := (hr r e).1; omega)⟩
  case assign =>
    intro l2 x V2 K hm hK
    obtain ⟨ca, cn, cc, hcs⟩ := plain_slice (IN.out.2.2.1 x hm)
    obtain ⟨id, till, cs, win, o⟩ := x
    dsimp only at hcs
    subst hcs
    unfold encE
    gi_wp2
    simpa [EV.val, EV.cells] using hK
  case body =>
    rintro l2 k pre x V2 ⟨⟨ys, hs, hj⟩, hb, hb1', hb2', hB⟩ hx hk hlt hm
    have hp : PlainTab 0 V2 x.cs x.o := (IN.out.2.2.1 x hm).turn (Turn.of_below hB)
    have hsl : ys.length = pre.length := by have := congrArg List.length hs; simpa using this
    have b1' := hb1'
    have b2' := hb2'
    have hd : 1 ≤ n - 1 - 1 := by omega
    have hf26 : Fence.wide.fn 26 := trivial
    have hmix : Try.prog.follows .mixedOrders = true := by kernel_rfl
    obtain ⟨id, till, cs, win, o⟩ := x
    dsimp only at hp
    obtain ⟨ca, cn, cc, rfl⟩ := plain_slice hp
    have TD := Lib.hid (told_is (e := ⟨id, till, .slice ca cn cc, win, o⟩) (w := V2.drew) hp)
    have bc := hb.cell
    have x0 : V2.cell? ⟨k, 0, none⟩ = some (.int .i64 id) := by simp [World.cell?, hx, EV.cells]
    have x1 : V2.cell? ⟨k, 1, none⟩ = some (.int .i64 till) := by simp [World.cell?, hx, EV.cells]
    have x2 : V2.cell? ⟨k, 2, none⟩ = some (.slice ca cn cc) := by simp [World.cell?, hx, EV.cells]
    have x3 : V2.cell? ⟨k, 3, none⟩ = some (.int .i64 win) := by simp [World.cell?, hx, EV.cells]
    have x4 : V2.cell? ⟨k, 4, none⟩ = some (.bool false) := by simp [World.cell?, hx, EV.cells]
    unfold EV.val
    dsimp only
    gi_wp2_with fail
    gi_region_with_o (first
      | (gi_at_call 26; refine (CallsIn.inRound l2 (callsIn_wide.2 TD.out)).mono ?_; rintro en w5 ⟨cs', rfl, hp', T'⟩; obtain ⟨da, dn, dc, rfl⟩ := plain_slice hp'; have bc5 : w5.cell? ⟨W.heap.size, 0, none⟩ = some (.func (.yield lo) #[] #[]) := T'.cell (fun f => f) bc; have J5 : J ys w5 := IN.out.1 _ V2 w5 none hj ⟨T'.os, T'.tape, T'.output, T'.size, fun k hk _ => T'.block k hk (fun f => f)⟩ (fun r e => by cases e); obtain ⟨fn, tmps, assign, body, hy, hRd⟩ := IN.out.2.1 ys ⟨id, till, .slice da dn dc, win, o⟩ w5 J5 (by rw [hsl]; exact hlt) (hp'.low (Nat.zero_le _)); (try unfold EV.val); (try dsimp only); (try unfold encE at hy); (try dsimp only at hy))
      | (go_simp; refine (roundIn_wide hRd).mono ?_; rintro en w6 ⟨rfl, hj6, hk6, hf6⟩))
    all_goals gi_wp2
    all_goals
      have t5 : V2.heap.size ≤ w5.heap.size := T'.size
      have hkb : ∀ k, (k < w.heap.size ∨ ∃ cs q t, V2.heap[k]? = some (.cells cs t q) ∧ (t = 24 ∨ t = 3 ∨ t = 85)) → w6.heap[k]? = V2.heap[k]? := fun k hk => by
        have e5 : w5.heap[k]? = V2.heap[k]? := T'.block k (by
          rcases hk with hk | ⟨cs, q, t, g1, _⟩
          · have := hB.size
            exact Nat.lt_of_lt_of_le hk this
          · exact (Array.getElem?_eq_some_iff.1 g1).1) (fun f => f)
        refine (hk6.keep k ?_).trans e5
        rcases hk with hk | ⟨cs, q, t, g1, g2⟩
        · exact .inl hk
        · exact .inr ⟨cs, q, t, e5.trans g1, g2⟩
      refine ⟨⟨Nat.le_trans t5 hf6.size, fun k o hk g1 g2 => hf6.same k o (by omega) ((T'.block k (Array.getElem?_eq_some_iff.1 g1).1 (fun f => f)).trans g1) g2⟩, ⟨Nat.le_trans t5 hk6.size, fun k hk => ?_⟩, ⟨⟨_, ?_, hj6⟩, ?_, ?_, ?_, ?_⟩⟩
      · rcases hk with hk | rfl | rfl
        · exact hkb k (.inl hk)
        · exact hkb _ (.inr ⟨_, _, _, b1', .inl rfl⟩)
        · exact hkb _ (.inr ⟨_, _, _, b2', .inr (.inl rfl)⟩)
      · unfold SameL at hs ⊢
        simp [hs, EV.key]
      · exact (hkb _ (.inr ⟨_, _, _, hb, .inr (.inr rfl)⟩)).trans hb
      · exact (hkb _ (.inr ⟨_, _, _, b1', .inl rfl⟩)).trans b1'
      · exact (hkb _ (.inr ⟨_, _, _, b2', .inr (.inl rfl)⟩)).trans b2'
      · exact hB.trans ⟨hk6.os.trans T'.os, hk6.tape.trans T'.tape, hk6.output.trans T'.output, Nat.le_trans t5 hk6.size, fun k hk => hkb k (.inl hk)⟩
  case done =>
    rintro D ys V2 hD rfl ⟨⟨zs, hs, hj⟩, hb, hb1', hb2', hB⟩ hK
    gi_wp2
    refine ⟨by simp, .inl ⟨_, _, rfl, run_takeDeferred hK, ?_⟩⟩
    exact ⟨_, results_none rfl _ _ _, ⟨_, rfl⟩, zs, hs, IN.out.1 _ _ _ (some D) hj (grownBy_putObj' V2 D _) fun r e => by cases e; exact ⟨by omega, _, hK, .inr rfl⟩⟩
end Go.Proofs.Ytbpcocobimdcnaa
