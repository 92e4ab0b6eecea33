/-
  living's and Live's iterators, whose rounds may keep what lies in new cells.
-/
import Derived.Test.YtbpcocobimdcnaaRangeN
import Derived.Test.YtbpcocobimdcnaaRv
namespace Go.Proofs.Ytbpcocobimdcnaa
open Go.ChangeShapes Go.WideShapes Go.ChangeAt Go.RowKit Go.Shelf
set_option linter.unusedVariables false
attribute [local go_sem] Oper.semAt_some

set_option maxRecDepth 100000 in
set_option maxHeartbeats 2000000 in
theorem living_inN (n : Nat) (hn : 1 ≤ n) (lo s B1 B2 : Nat) {at_ : Int} {p a : Option Addr} {l : List EV} {cap : Nat} {W : World} (hc : s ≤ W.heap.size) (hB1 : B1 < W.heap.size) (hB2 : B2 < W.heap.size) (hV : RowV W p (.slice a l.length cap)) (hpc : ∀ r, p = some r → r.block < s)
    (hR : ERow W (.slice a l.length cap) l) (hvc : ∀ g, (Value.slice a l.length cap).ownBlock = some g → g < s) (b1 : W.cell? ⟨B1, 0, none⟩ = some (.pointer p)) (b2 : W.cell? ⟨B2, 0, none⟩ = some (.int .i64 at_)) (hcs : ∀ e ∈ l, ∃ a n c, e.cs = .slice a n c)
    (J : List EV → World → Prop) (hJ : OwnFrom W.heap.size J)
    (hY : ∀ pre x W1, J pre W1 → pre.length < (l.filter (livesAt at_)).length → x ∈ l → YieldAt Fence.wide (n - 1) Try.prog lo (encE x) W1 fun en W' => en = .returned (.bool true) ∧ J (pre ++ [x]) W' ∧ KL s B1 B2 W1 W')
    (h0 : J [] W) :
    CallsIn Fence.wide n Try.prog 38 #[.func (.yield lo) #[] #[], .pointer (some ⟨B1, 0, none⟩), .pointer (some ⟨B2, 0, none⟩)] W fun en W' => (∃ v, en = .returned v) ∧ J (l.filter (livesAt at_)) W' := by
  have RV := Lib.hid (row_v hV)
  have IN := Lib.hid (And.intro hR (And.intro hJ (And.intro hY (And.intro hvc hcs))))
  have I0 : LvRel at_ l s B1 B2 W J (.int .i64 0) W := ⟨0, rfl, Nat.zero_le _, h0, Nat.le_refl _, fun _ _ => rfl⟩
  have hl := hR.lt
  clear hV hR hJ hY hvc hcs h0 hpc
  refine callsIn_of_wp Try.func38 rfl trivial ?_ rfl
  simp only [Try.ntmps38, List.size_toArray, List.length_cons, List.length_nil, Nat.reduceAdd, Nat.reduceSub, Array.replicate_succ, Array.replicate_zero, List.push_toArray, List.append_toArray, List.nil_append, List.cons_append]
  gi_wp2_with fail
  refine ⟨trivial, ?_⟩
  refine (callsIn_wide.2 RV.out).mono ?_
  rintro e w1 ⟨rfl, rfl⟩
  clear RV
  gi_wp2_with fail
  gi_loopw [9] (fun v wr => LvRel at_ l s B1 B2 w1 J v wr) (fun v _ => l.length - (intOf v).toNat)
  case atStart => exact I0
  case round =>
    clear I0
    obtain ⟨k, rfl, hk, hJs, hnx⟩ := hrel
    by_cases hkl : k < l.length
    · obtain ⟨⟨id, till, cs, win, o⟩, hx⟩ : ∃ q, l[k]? = some q := ⟨_, List.getElem?_eq_getElem hkl⟩
      obtain ⟨ca, cn, cc, hcs⟩ := IN.out.2.2.2.2 _ (List.mem_of_getElem? hx)
      dsimp only at hcs
      subst hcs
      obtain ⟨a', c', e1, e2⟩ := own_slice IN.out.1.own
      injection e1 with e1 _ e3
      subst e3
      obtain ⟨g, hg⟩ := e2 (by omega)
      rw [hg] at e1
      subst e1
      have hgc : g < s := IN.out.2.2.2.1 g rfl
      have ro : wr.ownsRow 0 48 5 (.slice (some ⟨g, 0, none⟩) l.length cap) l.length (ecells l) := own_keep IN.out.1.own (fun q hq => hnx.2 q (.inl (IN.out.2.2.2.1 q hq)))
      obtain ⟨x0, x1, x2, x3, x4⟩ := ecells_at l k _ hx
      have y0 := (ro.cellAt (k * 5) (by omega)).trans x0
      have y1 := (ro.cellAt (k * 5 + 1) (by omega)).trans x1
      have y2 := (ro.cellAt (k * 5 + 2) (by omega)).trans x2
      have y3 := (ro.cellAt (k * 5 + 3) (by omega)).trans x3
      have y4 := (ro.cellAt (k * 5 + 4) (by omega)).trans x4
      dsimp only at y0 y1 y2 y3 y4
      have z2 : wr.cell? ⟨B2, 0, none⟩ = some (.int .i64 at_) := (World.cell?_of_block (w := w1) (hnx.2 B2 (.inr (.inr rfl)))).trans b2
      have z2' : (wr.alloc (.cells #[.int .i64 id, .int .i64 till, .slice ca cn cc, .int .i64 win, .bool false] 48)).cell? ⟨B2, 0, none⟩ = some (.int .i64 at_) := (World.cell?_of_block (w := wr) (Below.heap_alloc wr _ _ (by have := hnx.1; show B2 < _; omega))).trans z2
      have hk1 : (k : Int) < (l.length : Int) := by omega
      have hk0 : (0 : Int) ≤ (k : Int) := by omega
      have hws := hnx.1
      have J2 : J ((l.take k).filter (livesAt at_)) (wr.alloc (.cells #[.int .i64 id, .int .i64 till, .slice ca cn cc, .int .i64 win, .bool false] 48)) := IN.out.2.1 _ _ _ none hJs (World.grownBy_alloc wr _ none) (fun r e => by cases e)
      have K2 := kl_t hnx (kl_alloc wr (.cells #[.int .i64 id, .int .i64 till, .slice ca cn cc, .int .i64 win, .bool false] 48) (by omega) (by omega) (by omega))
      have X := Lib.hid (And.intro hx (And.intro J2 K2))
      clear x0 x1 x2 x3 x4 ro hx hJs hnx J2 K2 b1 b2
      have no : livesAt at_ ⟨id, till, .slice ca cn cc, win, o⟩ = false → LvRel at_ l s B1 B2 w1 J (.int .i64 ((k + 1 : Nat) : Int)) (wr.alloc (.cells #[.int .i64 id, .int .i64 till, .slice ca cn cc, .int .i64 win, .bool false] 48)) := fun h =>
        ⟨k + 1, rfl, by omega, by rw [take_no X.out.1 h]; exact X.out.2.1, X.out.2.2⟩
      have yes : livesAt at_ ⟨id, till, .slice ca cn cc, win, o⟩ = true → YieldAt Fence.wide (n - 1) Try.prog lo #[.agg #[.int .i64 id, .int .i64 till, .slice ca cn cc, .int .i64 win, .bool false]] (wr.alloc (.cells #[.int .i64 id, .int .i64 till, .slice ca cn cc, .int .i64 win, .bool false] 48)) fun en W' => en = .returned (.bool true) ∧ LvRel at_ l s B1 B2 w1 J (.int .i64 ((k + 1 : Nat) : Int)) W' := fun h => by
        obtain ⟨fn, tmps, assign, body, hy, hRd⟩ := IN.out.2.2.1 _ ⟨id, till, .slice ca cn cc, win, o⟩ _ X.out.2.1 (filt_lt X.out.1 h) (List.mem_of_getElem? X.out.1)
        exact ⟨fn, tmps, assign, body, hy, hRd.mono fun en W' hp => ⟨hp.1, k + 1, rfl, by omega, by rw [take_yes X.out.1 h]; exact hp.2.1, kl_t X.out.2.2 hp.2.2⟩⟩
      have NO := Lib.hid no
      have YES := Lib.hid yes
      clear no yes X
      have hc1 : intOf (.int .i64 ((k + 1 : Nat) : Int)) = (k : Int) + 1 := by simp [intOf]
      have lv : livesAt at_ ⟨id, till, .slice ca cn cc, win, o⟩ = (decide (id < at_) && (decide (till = -1) || decide (at_ ≤ till))) := rfl
      by_cases h1 : id < at_
      · by_cases h2 : till = -1
        · subst h2
          have t1 : decide (id < at_) = true := by simpa using h1
          obtain ⟨fn, tmps, assign, body, hy, hRd⟩ := YES.out (by rw [lv, t1]; rfl)
          have HR := Lib.hid hRd
          clear hRd NO YES lv
          gi_wp2_with fail
          refine HR.out.mono ?_
          rintro e W3 ⟨rfl, hR3⟩
          have R3 := Lib.hid hR3
          clear hR3
          gi_wp2
          go_roundw
          case rel => exact R3.out
          case measure => simp [intOf]; omega
        · have t1 : decide (id < at_) = true := by simpa using h1
          have t2 : (till == -1) = false := by simpa using h2
          have t2' : decide (till = -1) = false := by simpa using h2
          by_cases h3 : at_ ≤ till
          · have t3 : decide (at_ ≤ till) = true := by simpa using h3
            obtain ⟨fn, tmps, assign, body, hy, hRd⟩ := YES.out (by rw [lv, t1, t2', t3]; rfl)
            have HR := Lib.hid hRd
            clear hRd NO YES lv
            gi_wp2_with fail
            refine HR.out.mono ?_
            rintro e W3 ⟨rfl, hR3⟩
            have R3 := Lib.hid hR3
            clear hR3
            gi_wp2
            go_roundw
            case rel => exact R3.out
            case measure => simp [intOf]; omega
          · have t3 : decide (at_ ≤ till) = false := by simpa using h3
            have R3 := Lib.hid (NO.out (by rw [lv, t1, t2', t3]; rfl))
            clear NO YES lv
            gi_wp2
            refine ⟨fun f hf => (by cases hf), ?_⟩
            gi_wp2
            go_roundw
            case rel => exact R3.out
            case measure => simp [intOf]; omega
      · have t1 : decide (id < at_) = false := by simpa using h1
        have R3 := Lib.hid (NO.out (by rw [lv, t1]; rfl))
        clear NO YES lv
        gi_wp2
        refine ⟨fun f hf => (by cases hf), ?_⟩
        gi_wp2
        go_roundw
        case rel => exact R3.out
        case measure => simp [intOf]; omega
    · have e : l.take k = l := List.take_of_length_le (by omega)
      rw [e] at hJs
      have X := Lib.hid hJs
      clear hJs e
      gi_wp2
      go_end0
      exact ⟨⟨_, rfl⟩, X.out⟩
theorem living_givesN (n : Nat) (hn : 1 ≤ n) {w W : World} {B1 B2 : Nat} {p : Option Addr} {l : List EV} {at_ : Int} (h : RollS w p l) (hB : Below w.heap.size w W) (h1 : B1 < W.heap.size) (h2 : B2 < W.heap.size)
    (b1 : W.cell? ⟨B1, 0, none⟩ = some (.pointer p)) (b2 : W.cell? ⟨B2, 0, none⟩ = some (.int .i64 at_)) :
    GivesN n Try.prog 38 #[.pointer (some ⟨B1, 0, none⟩), .pointer (some ⟨B2, 0, none⟩)] encE (KL w.heap.size B1 B2) (fun ys => ys = l.filter (livesAt at_)) (fun x _ => x ∈ l) (l.filter (livesAt at_)).length W := fun lo J V hV hJ hY h0 => by
  obtain ⟨v, hv, hr⟩ := rowV_of h.at_
  obtain ⟨a, c, rfl, _⟩ := own_slice hr.own
  have z := hB.size
  have hwV : Below w.heap.size w V := hB.trans (hV.mono z)
  have kp : ∀ k, k < w.heap.size → V.heap[k]? = w.heap[k]? := fun k hk => hwV.block k hk
  have := hV.size
  have lt : ∀ g, (Value.slice a l.length c).ownBlock = some g → g < w.heap.size := fun g hg => (hr.own.lt g hg).2
  refine (living_inN n hn lo w.heap.size B1 B2 (by omega) (by omega) (by omega) (hv.keep hv.lt kp) hv.lt ⟨own_keep hr.own fun k hk => kp k (lt k hk), hr.lt⟩ lt
    ((World.cell?_of_block (w := W) (hV.block _ h1)).trans b1) ((World.cell?_of_block (w := W) (hV.block _ h2)).trans b2)
    (fun e he => plain_slice (h.tabs e he)) J hJ (fun pre x W1 q1 q2 q3 => by
      obtain ⟨fn, t, a, b, hy, hr⟩ := hY pre x W1 q1 q2 q3
      exact ⟨fn, t, a, b, hy, hr.mono fun en W' h => ⟨h.1, h.2.1, h.2.2.1⟩⟩) h0).mono ?_
  rintro en W' ⟨r1, r2⟩
  exact ⟨r1, _, rfl, r2⟩
set_option maxRecDepth 100000 in
set_option maxHeartbeats 2000000 in
theorem live1_inN (n : Nat) (hn : 8 ≤ n) (lo : Nat) {w W : World} {B1 B2 : Nat} {p : Option Addr} {l : List EV} {at_ : Int} (h : RollS w p l) (hB : Below w.heap.size w W)
    (b1 : W.cell? ⟨B1, 0, none⟩ = some (.pointer p)) (b2 : W.cell? ⟨B2, 0, none⟩ = some (.int .i64 at_)) (J : List EV → World → Prop) (hJ : OwnFrom W.heap.size J)
    (hY : ∀ pre x W1, J pre W1 → pre.length < (l.filter (livesAt at_)).length → PlainTab 0 W1 x.cs x.o → YieldAt Fence.wide (n - 1) Try.prog lo (encE x) W1 fun en W' => en = .returned (.bool true) ∧ J (pre ++ [x]) W' ∧ KB w.heap.size W1 W' ∧ KeepsFrom W.heap.size W1 W') (h0 : J [] W) :
    CallsIn Fence.wide n Try.prog 39 #[.func (.yield lo) #[] #[], .pointer (some ⟨B1, 0, none⟩), .pointer (some ⟨B2, 0, none⟩)] W fun en W' => (∃ v, en = .returned v) ∧ ∃ ys, SameL ys (l.filter (livesAt at_)) ∧ J ys W' := by
  have h1 : 1 ≤ n := by omega
  have bO := Boxed.new W 85 (.func (.yield lo) #[] #[])
  have MK := Lib.hid (living_mk (W.alloc (.cells #[.func (.yield lo) #[] #[]] 85)) p at_)
  obtain ⟨V, hV⟩ : ∃ V, V = ((W.alloc (.cells #[.func (.yield lo) #[] #[]] 85)).alloc (.cells #[.pointer p] 24)).alloc (.cells #[.int .i64 at_] 3) := ⟨_, rfl⟩
  have z := hB.size
  have hBV : Below w.heap.size w V := by
    rw [hV]
    exact ((hB.alloc z _).alloc (by simp; omega) _).alloc (by simp; omega) _
  have hz : V.heap.size = W.heap.size + 3 := by rw [hV]; simp
  have bV : Boxed V W.heap.size 85 (.func (.yield lo) #[] #[]) := by
    rw [hV]
    exact (bO.alloc _).alloc _
  have v1 : Boxed V (W.heap.size + 1) 24 (.pointer p) := by
    rw [hV]
    have := Boxed.alloc (Boxed.new (W.alloc (.cells #[.func (.yield lo) #[] #[]] 85)) 24 (.pointer p)) (.cells #[.int .i64 at_] 3)
    rw [World.size_alloc] at this
    exact this
  have v2 : Boxed V (W.heap.size + 2) 3 (.int .i64 at_) := by
    rw [hV]
    have := Boxed.new ((W.alloc (.cells #[.func (.yield lo) #[] #[]] 85)).alloc (.cells #[.pointer p] 24)) 3 (.int .i64 at_)
    rw [World.size_alloc, World.size_alloc] at this
    exact this
  have q1 := v1.cell
  have q2 := v2.cell
  have J1 : J [] V := by
    rw [hV]
    refine hJ _ _ _ none (hJ _ _ _ none (hJ _ _ _ none h0 (World.grownBy_alloc _ _ none) ?_) (World.grownBy_alloc _ _ none) ?_) (World.grownBy_alloc _ _ none) ?_
    all_goals exact fun r e => by cases e
  have GV := Lib.hid (living_givesN (n - 1) (by omega) h hBV (by omega) (by omega) q1 q2)
  have IN := Lib.hid (And.intro hJ (And.intro hY (And.intro h.tabs hB)))
  have II := Lib.hid (show LvI w.heap.size W.heap.size lo p at_ J w [] V from ⟨⟨[], rfl, J1⟩, bV, v1, v2, hBV⟩)
  have hb1 : B1 < W.heap.size := block_lt_of_cell b1
  have hb2 : B2 < W.heap.size := block_lt_of_cell b2
  have c1 : (W.alloc (.cells #[.func (.yield lo) #[] #[]] 85)).cell? ⟨B1, 0, none⟩ = some (.pointer p) := (World.cell?_of_block (w := W) (Below.heap_alloc W _ _ hb1)).trans b1
  have c2 : (W.alloc (.cells #[.func (.yield lo) #[] #[]] 85)).cell? ⟨B2, 0, none⟩ = some (.int .i64 at_) := (World.cell?_of_block (w := W) (Below.heap_alloc W _ _ hb2)).trans b2
  clear h bO hB hBV q1 q2 bV v1 v2 hJ hY h0 J1
  refine callsIn_of_wp_marks Try.func39 rfl trivial ?_ rfl
  simp only [Try.ntmps39, List.size_toArray, List.length_cons, List.length_nil, Nat.reduceAdd, Nat.reduceSub, Array.replicate_succ, Array.replicate_zero, List.push_toArray, List.append_toArray, List.nil_append, List.cons_append]
  gi_wp2_with fail
  refine ⟨trivial, ?_⟩
  refine (callsIn_wide.2 MK.out).mono ?_
  rintro en w1 ⟨rfl, e1⟩
  rw [← hV] at e1
  subst e1
  clear MK hV
  simp only [World.size_alloc]
  gi_wp2_with fail
  refine range_tN h1 (gf := 38) (lb := #[.pointer (some ⟨W.heap.size + 1, 0, none⟩), .pointer (some ⟨W.heap.size + 2, 0, none⟩)]) rfl (enters_of Try.func38 (by kernel_rfl) rfl) GV.out (Below.refl _ _) (fun _ => rfl) kl_t (kl_b (by omega) (by omega) (by omega)) (LvI w.heap.size W.heap.size lo p at_ J w) ?own (fun x V o h => h) (fun x V l o o' h _ _ => h) II.out
    (fun x k => { tmps := #[.func (.yield lo) #[] #[], .pointer (some ⟨B1, 0, none⟩), .pointer (some ⟨B2, 0, none⟩), .pointer (some ⟨W.heap.size, 0, none⟩), .pointer (some ⟨k, 0, none⟩), .pointer p, .int .i64 at_, .func (.func 38) #[] #[.pointer (some ⟨W.heap.size + 1, 0, none⟩), .pointer (some ⟨W.heap.size + 2, 0, none⟩)], x.val, undef, undef, undef, undef, undef], defers := [] })
    (fun x => .cells x.cells.toArray 48) ?ka ?assign ?body ?done
  case ka => exact fun V x hz2 => kl_alloc _ _ (by omega) (by omega) (by omega)
  case own =>
    rintro s A B row ⟨⟨ys, hs, hj⟩, hb, hb1', hb2', hB⟩ hg hr
    exact ⟨⟨ys, hs, IN.out.1 _ _ _ row hj hg fun r e => by
      obtain ⟨m, o, g1, g2⟩ := hr r e
      exact ⟨by omega, o, g1, g2⟩⟩, hb.kept hg (fun e => by have := (hr _ e.symm).1; omega), hb1'.kept hg (fun e => by have := (hr _ e.symm).1; omega), hb2'.kept hg (fun e => by have := (hr _ e.symm).1; omega), hB.grown hg hB.size (fun r e => by have := (hr r e).1; omega)⟩
  case assign =>
    intro l2 x V2 K hm hK
    obtain ⟨ca, cn, cc, hcs⟩ := plain_slice (IN.out.2.2.1 x hm)
    obtain ⟨id, till, cs, win, o⟩ := x
    dsimp only at hcs
    subst hcs
    unfold encE
    gi_wp2
    simpa [EV.val, EV.cells] using hK
  case body =>
    rintro l2 k pre x V2 ⟨⟨ys, hs, hj⟩, hb, hb1', hb2', hB⟩ hx hk hlt hm
    have hp : PlainTab 0 V2 x.cs x.o := (IN.out.2.2.1 x hm).turn (Turn.of_below hB)
    have hsl : ys.length = pre.length := by have := congrArg List.length hs; simpa using this
    have b1' := hb1'
    have b2' := hb2'
    have hd : 1 ≤ n - 1 - 1 := by omega
    have hf26 : Fence.wide.fn 26 := trivial
    have hmix : Try.prog.follows .mixedOrders = true := by kernel_rfl
    obtain ⟨id, till, cs, win, o⟩ := x
    dsimp only at hp
    obtain ⟨ca, cn, cc, rfl⟩ := plain_slice hp
    have TD := Lib.hid (told_is (e := ⟨id, till, .slice ca cn cc, win, o⟩) (w := V2.drew) hp)
    have bc := hb.cell
    have x0 : V2.cell? ⟨k, 0, none⟩ = some (.int .i64 id) := by simp [World.cell?, hx, EV.cells]
    have x1 : V2.cell? ⟨k, 1, none⟩ = some (.int .i64 till) := by simp [World.cell?, hx, EV.cells]
    have x2 : V2.cell? ⟨k, 2, none⟩ = some (.slice ca cn cc) := by simp [World.cell?, hx, EV.cells]
    have x3 : V2.cell? ⟨k, 3, none⟩ = some (.int .i64 win) := by simp [World.cell?, hx, EV.cells]
    have x4 : V2.cell? ⟨k, 4, none⟩ = some (.bool false) := by simp [World.cell?, hx, EV.cells]
    unfold EV.val
    dsimp only
    gi_wp2_with fail
    gi_region_with_o (first
      | (gi_at_call 26; refine (CallsIn.inRound l2 (callsIn_wide.2 TD.out)).mono ?_; rintro en w5 ⟨cs', rfl, hp', T'⟩; obtain ⟨da, dn, dc, rfl⟩ := plain_slice hp'; have bc5 : w5.cell? ⟨W.heap.size, 0, none⟩ = some (.func (.yield lo) #[] #[]) := T'.cell (fun f => f) bc; have J5 : J ys w5 := IN.out.1 _ V2 w5 none hj ⟨T'.os, T'.tape, T'.output, T'.size, fun k hk _ => T'.block k hk (fun f => f)⟩ (fun r e => by cases e); obtain ⟨fn, tmps, assign, body, hy, hRd⟩ := IN.out.2.1 ys ⟨id, till, .slice da dn dc, win, o⟩ w5 J5 (by rw [hsl]; exact hlt) (hp'.low (Nat.zero_le _)); (try unfold EV.val); (try dsimp only); (try unfold encE at hy); (try dsimp only at hy))
      | (go_simp; refine (roundIn_wide hRd).mono ?_; rintro en w6 ⟨rfl, hj6, hk6, hf6⟩))
    all_goals gi_wp2
    all_goals
      have t5 : V2.heap.size ≤ w5.heap.size := T'.size
      have hkb : ∀ k, (k < w.heap.size ∨ ∃ cs q t, V2.heap[k]? = some (.cells cs t q) ∧ (t = 24 ∨ t = 3 ∨ t = 85)) → w6.heap[k]? = V2.heap[k]? := fun k hk => by
        have e5 : w5.heap[k]? = V2.heap[k]? := T'.block k (by
          rcases hk with hk | ⟨cs, q, t, g1, _⟩
          · have := hB.size
            exact Nat.lt_of_lt_of_le hk this
          · exact (Array.getElem?_eq_some_iff.1 g1).1) (fun f => f)
        refine (hk6.keep k ?_).trans e5
        rcases hk with hk | ⟨cs, q, t, g1, g2⟩
        · exact .inl hk
        · exact .inr ⟨cs, q, t, e5.trans g1, g2⟩
      refine ⟨⟨Nat.le_trans t5 hf6.size, fun k o hk g1 g2 => hf6.same k o (by omega) ((T'.block k (Array.getElem?_eq_some_iff.1 g1).1 (fun f => f)).trans g1) g2⟩, ⟨Nat.le_trans t5 hk6.size, fun k hk => ?_⟩, ⟨⟨_, ?_, hj6⟩, ?_, ?_, ?_, ?_⟩⟩
      · rcases hk with hk | rfl | rfl
        · exact hkb k (.inl hk)
        · exact hkb _ (.inr ⟨_, _, _, b1', .inl rfl⟩)
        · exact hkb _ (.inr ⟨_, _, _, b2', .inr (.inl rfl)⟩)
      · unfold SameL at hs ⊢
        simp [hs, EV.key]
      · exact (hkb _ (.inr ⟨_, _, _, hb, .inr (.inr rfl)⟩)).trans hb
      · exact (hkb _ (.inr ⟨_, _, _, b1', .inl rfl⟩)).trans b1'
      · exact (hkb _ (.inr ⟨_, _, _, b2', .inr (.inl rfl)⟩)).trans b2'
      · exact hB.trans ⟨hk6.os.trans T'.os, hk6.tape.trans T'.tape, hk6.output.trans T'.output, Nat.le_trans t5 hk6.size, fun k hk => hkb k (.inl hk)⟩
  case done =>
    rintro D ys V2 hD rfl ⟨⟨zs, hs, hj⟩, hb, hb1', hb2', hB⟩ hK
    gi_wp2
    refine ⟨by simp, .inl ⟨_, _, rfl, run_takeDeferred hK, ?_⟩⟩
    exact ⟨_, results_none rfl _ _ _, ⟨_, rfl⟩, zs, hs, IN.out.1 _ _ _ (some D) hj (grownBy_putObj' V2 D _) fun r e => by cases e; exact ⟨by omega, _, hK, rfl⟩⟩
end Go.Proofs.Ytbpcocobimdcnaa
