/-
  The walk of EpochRipe: what is ripe comes out in order.
-/
import Derived.Test.YtibmimdlgbhdnaaRipeO
namespace Go.Proofs.Ytibmimdlgbhdnaa
open Go.ChangeShapes Go.WideShapes Go.ChangeAt Go.RowKit
set_option linter.unusedVariables false

/-- Integers lie in a row. -/
def Ints (w : World) (b off len : Nat) (X : Nat → Int) : Prop := ∀ i, i < len → w.cell? ⟨b, off + i, none⟩ = some (.int .i64 (X i))
/-- Blocks that are no older than the call. -/
def From (s k : Nat) : Prop := s ≤ k

structure RSt (w wr : World) (x lb base wb : Nat) (now : Int) (V : Nat → Value) (Q : Nat → List (Int × Int × Int)) (Vw : Nat → Value) (m : Nat) : Prop where
  epo : Epo wr x lb 4 base now (fun _ => -1) V Q
  wnt : Wnt wr wb base Vw (fun k => (Q k).map ref)
  tr : Turn (From w.heap.size) w wr
  srt : ∀ k, k < 4 → Srt now (Q k)
  len : ∀ k, k < 4 → (Q k).length ≤ m
/-- What does not turn: where the blocks lie. -/
structure Laid (w : World) (x lb base wb : Nat) : Prop where
  off : Off wb base x lb base
  x : w.heap.size ≤ x
  lb : w.heap.size ≤ lb
  wb : w.heap.size ≤ wb
def RRel (w : World) (x lb base wb len : Nat) (gh : Nat) (v : Value) (wr : World) : Prop :=
  ∃ (i : Nat) (now : Int) (V : Nat → Value) (Q : Nat → List (Int × Int × Int)) (Vw : Nat → Value), v = .int .i64 (i : Int) ∧ i ≤ len ∧ i ≤ 20 ∧ gh = 20 - i ∧ now ≤ (i : Int) ∧ RSt w wr x lb base wb now V Q Vw i

section
variable {w wr w' : World} {x lb base wb m : Nat} {now : Int} {V V2 Vw : Nat → Value} {Q : Nat → List (Int × Int × Int)}
theorem Laid.epoS (L : Laid w x lb base wb) (h : Epo wr x lb 4 base now (fun _ => -1) V Q) (ht : Turn (EpoOwn x lb 4 V) wr w') (tr : Turn (From w.heap.size) w wr) : Turn (From w.heap.size) w w' := by
  have l1 := L.x
  have l2 := L.lb
  have l3 := L.off.bx
  refine tr.trans (ht.more (fun k _ hk => ?_))
  unfold From
  rcases hk with rfl | rfl | ⟨a, ha, e⟩
  · exact l1
  · exact l2
  · have := h.rowx ha e
    omega
theorem Laid.wntS (L : Laid w x lb base wb) {W : Nat → List (Int × Int)} (h : Wnt wr wb base Vw W) (ht : Turn (WOwn wb Vw) wr w') (tr : Turn (From w.heap.size) w wr) : Turn (From w.heap.size) w w' := by
  have l1 := L.wb
  have l3 := h.lw
  refine tr.trans (ht.more (fun k _ hk => ?_))
  unfold From
  rcases hk with rfl | ⟨a, ha, e⟩
  · exact l1
  · have := ((h.rows a ha).lt k e).1
    omega
theorem RSt.adv (L : Laid w x lb base wb) (h : RSt w wr x lb base wb now V Q Vw m) (hm : now < 1000000) : Calls Try.prog 42 #[.pointer (some ⟨x, 0, none⟩)] wr fun e w' => e = .returned (.bool true) ∧ RSt w w' x lb base wb (now + 1) V Q Vw m :=
  (h.epo.advance_yes (by decide) hm (fun _ _ => .inl rfl)).mono fun e w' ⟨he, h1, t1⟩ => ⟨he, h1, h.wnt.keepE h.epo L.off t1, L.epoS h.epo t1 h.tr, fun k hk => (h.srt k hk).more (by omega), h.len⟩
theorem RSt.alloc (h : RSt w wr x lb base wb now V Q Vw m) (o : Obj) : RSt w (wr.alloc o) x lb base wb now V Q Vw m :=
  ⟨h.epo.alloc o, h.wnt.same ((Turn.refl _ wr).alloc o), h.tr.alloc o, h.srt, h.len⟩

theorem map_upd (Q : Nat → List (Int × Int × Int)) (a : Nat) (q : List (Int × Int × Int)) : (fun k => (upd Q a q k).map ref) = upd (fun k => (Q k).map ref) a (q.map ref) := by
  funext k
  by_cases e : k = a
  · subst e
    rw [upd_at, upd_at]
  · rw [upd_off _ _ e, upd_off _ _ e]

theorem RSt.stored (L : Laid w x lb base wb) {a : Nat} {r0 r1 : Int} (h4 : Epo wr x lb 4 base now (fun _ => -1) V2 (upd Q a (Q a ++ [(r0, r1, now)]))) (g4 : Wnt wr wb base Vw (fun k => (Q k).map ref)) (tr : Turn (From w.heap.size) w wr)
    (hs : ∀ k, k < 4 → Srt now (Q k)) (hl : ∀ k, k < 4 → (Q k).length ≤ m) (ha : a < 4) {w5 : World} {o : Obj} {g cap : Nat} (hgrow : ((wr.alloc o).drew).grownBy w5 (Vw a).ownBlock)
    (hown : w5.ownsRow base 51 2 (.slice (some ⟨g, 0, none⟩) ((Q a).length + 1) cap) ((Q a).length + 1) (cells2 ((Q a).map ref) ++ [.int .i64 r0, .int .i64 r1])) (hat : (Vw a).ownBlock = some g ∨ g = wr.heap.size + 1) :
    ∃ Vw', RSt w (w5.setCell ⟨wb, a, none⟩ (.slice (some ⟨g, 0, none⟩) ((Q a).length + 1) cap)) x lb base wb now V2 (upd Q a (Q a ++ [(r0, r1, now)])) Vw' (m + 1) := by
  have t1 : Turn (fun _ => False) wr (wr.alloc o).drew := ((Turn.refl _ wr).alloc o).drewd
  have g5 := g4.same t1
  have h5 := h4.same t1
  have e1 : ((Q a ++ [(r0, r1, now)]).map ref).length = (Q a).length + 1 := by simp
  have Z := g5.put ha (v' := .slice (some ⟨g, 0, none⟩) ((Q a).length + 1) cap) (q' := (Q a ++ [(r0, r1, now)]).map ref) ((Turn.refl _ _).grown hgrow (fun k hk => .inl hk))
    (by rw [e1, List.map_append, cells2_app]; exact hown) (fun b hb hba => .inr (fun e => by
      rcases hat with q | q
      · rcases g4.apart a b ha hb (Ne.symm hba) with q2 | q2
        · rw [q] at q2
          cases q2
        · exact q2 (by rw [q]; exact e)
      · have := ((g4.rows b hb).lt g e.symm).2
        omega))
  refine ⟨upd Vw a (.slice (some ⟨g, 0, none⟩) ((Q a).length + 1) cap), ⟨h5.keepW g5 L.off Z.2, ?_, L.wntS g5 Z.2 (tr.trans t1.none), fun k hk => ?_, fun k hk => ?_⟩⟩
  · rw [map_upd]
    exact Z.1
  · by_cases e : k = a
    · subst e
      rw [upd_at]
      exact (hs k hk).snoc r0 r1
    · rw [upd_off _ _ e]
      exact hs k hk
  · by_cases e : k = a
    · subst e
      rw [upd_at, List.length_append]
      have := hl k hk
      simp
      omega
    · rw [upd_off _ _ e]
      have := hl k hk
      omega
end

theorem step_append_run {P : Program} {w w' : World} {ops : Array Oper} {o : Oper} {a : Act} {K : Act → World → Prop} {Q : Exit → Act → World → Prop} {E : Prop} (hgd : o.guard = none) (s x : Operand) (t : TypeId)
    (ho : o.op = .call { callee := .builtin .append, args := #[s, x], argTypes := #[t, t] }) {v v1 v2 : Value} (hs : a.eval s = v1) (hx : a.eval x = v2)
    (hr : (Builtin.append_ #[t, t] o.type #[v1, v2]).run P w = .ok v w') (h : K (a.put o.dst v) w') : if Region.wanted o (yielded ops a.tmps) = true then Oper.wp P o a w K Q else E := by
  have hw : Region.wanted o (yielded ops a.tmps) = true := by simp [Region.wanted, hgd]
  rw [if_pos hw]
  unfold Oper.wp execOp
  simp only [ho, resolve, invoke, builtin, Sem.run_bind, Sem.run_pure, Result.andThen_ok, List.map_toArray, List.map_cons, List.map_nil, hs, hx, hr]
  exact h
/-- The refs that were told at once, from j on, each in a row of its own. -/
structure Got (w : World) (gb j : Nat) (Vg : Nat → Value) (T : Nat → List (Int × Int)) : Prop where
  bw : gb + 1 ≤ w.heap.size
  cv : ∀ k, j ≤ k → k < 4 → w.cell? ⟨gb, k, none⟩ = some (Vg k)
  rows : ∀ k, j ≤ k → k < 4 → w.ownsRow (gb + 1) 51 2 (Vg k) (T k).length (cells2 (T k))
section
variable {w wr w' : World} {x lb base wb gb j : Nat} {now : Int} {V V2 Vw Vg : Nat → Value} {Q Q2 : Nat → List (Int × Int × Int)} {T : Nat → List (Int × Int)}
theorem Got.keep (h : Got w gb j Vg T) {S : Nat → Prop} (ht : Turn S w w') (h1 : ¬ S gb) (hs : ∀ k b, j ≤ k → k < 4 → (Vg k).ownBlock = some b → ¬ S b) : Got w' gb j Vg T :=
  ⟨Nat.le_trans h.bw ht.size, fun k hj hk => ht.cell h1 (h.cv k hj hk), fun k hj hk => own_turn (h.rows k hj hk) ht (fun b hb => hs k b hj hk hb)⟩
theorem Got.same (h : Got w gb j Vg T) (ht : Turn (fun _ => False) w w') : Got w' gb j Vg T := h.keep ht id (fun _ _ _ _ _ => id)

/-- While the ripe ones are fetched. -/
structure Fet (w wr : World) (x lb base wb gb : Nat) (now : Int) (V V2 : Nat → Value) (Q2 : Nat → List (Int × Int × Int)) (Vw : Nat → Value) (W : Nat → List (Int × Int)) : Prop where
  epo : Epo wr x lb 4 base now (fun _ => -1) V2 Q2
  own : ∀ a, (V2 a).ownBlock = (V a).ownBlock
  low : ∀ k, EpoOwn x lb 4 V k → k < gb
  wnt : Wnt wr wb base Vw W
  wow : ∀ k, WOwn wb Vw k → k < gb
  tr : Turn (From w.heap.size) w wr
theorem Fet.low2 {W' : Nat → List (Int × Int)} (h : Fet w wr x lb base wb gb now V V2 Q2 Vw W') {k : Nat} (hk : EpoOwn x lb 4 V2 k) : k < gb :=
  h.low k (hk.elim .inl fun e => e.elim (fun e => .inr (.inl e)) fun ⟨a, ha, e⟩ => .inr (.inr ⟨a, ha, by rw [← h.own a]; exact e⟩))
theorem Fet.turn (L : Laid w x lb base wb) {W' : Nat → List (Int × Int)} (h : Fet w wr x lb base wb gb now V V2 Q2 Vw W') {S : Nat → Prop} (ht : Turn S wr w') (hS : ∀ k, S k → gb ≤ k ∧ w.heap.size ≤ k) : Fet w w' x lb base wb gb now V V2 Q2 Vw W' :=
  ⟨h.epo.keep ht (fun k _ h1 h2 => by have := h.low2 h1; have := (hS k h2).1; omega), h.own, h.low, h.wnt.keep ht (fun k _ h1 h2 => by have := h.wow k h1; have := (hS k h2).1; omega), h.wow, h.tr.trans (ht.more (fun k _ hk => (hS k hk).2))⟩
theorem Fet.same (L : Laid w x lb base wb) {W' : Nat → List (Int × Int)} (h : Fet w wr x lb base wb gb now V V2 Q2 Vw W') (ht : Turn (fun _ => False) wr w') : Fet w w' x lb base wb gb now V V2 Q2 Vw W' :=
  h.turn L ht (fun _ e => e.elim)
theorem Fet.step (L : Laid w x lb base wb) {W' : Nat → List (Int × Int)} (h : Fet w wr x lb base wb gb now V V2 Q2 Vw W') {now' : Int} {V3 : Nat → Value} {Q3 : Nat → List (Int × Int × Int)} (h3 : Epo w' x lb 4 base now' (fun _ => -1) V3 Q3) (ht : Turn (EpoOwn x lb 4 V2) wr w') (ho : ∀ a, (V3 a).ownBlock = (V2 a).ownBlock) :
    Fet w w' x lb base wb gb now' V V3 Q3 Vw W' :=
  ⟨h3, fun a => (ho a).trans (h.own a), h.low, h.wnt.keepE h.epo L.off ht, h.wow, L.epoS h.epo ht h.tr⟩
theorem own_upd (V : Nat → Value) (a : Nat) (v : Value) (h : v.ownBlock = (V a).ownBlock) (b : Nat) : (upd V a v b).ownBlock = (V b).ownBlock := by
  by_cases e : b = a
  · subst e
    rw [upd_at, h]
  · rw [upd_off _ _ e]
/-- Ripe, among the rest. -/
theorem Fet.ripe (L : Laid w x lb base wb) {W' : Nat → List (Int × Int)} (h : Fet w wr x lb base wb gb now V V2 Q2 Vw W') {a : Nat} (ha : a < 4) (hq : (Q2 a).length ≤ 1000000) :
    Calls Try.prog 40 #[.pointer (some ⟨x, 0, none⟩), .int .i64 (a : Int)] wr fun e w' => ∃ vl V3, e = .returned vl ∧ w'.ownsRow wr.heap.size 51 2 vl (told now (Q2 a)).length (cells2 (told now (Q2 a))) ∧ Fet w w' x lb base wb gb now V V3 (upd Q2 a (kept now (Q2 a))) Vw W' ∧ Turn (fun k => k < gb) wr w' :=
  (h.epo.ripeO ha hq).mono fun e w' hp => by
    unfold RipePostO at hp
    obtain ⟨vl, v', he, ho, hE, hT, hv⟩ := hp
    exact ⟨vl, _, he, ho, h.step L hE hT (own_upd V2 a v' hv), hT.more (fun k _ hk => h.low2 hk)⟩
theorem Fet.adv (L : Laid w x lb base wb) {W' : Nat → List (Int × Int)} (h : Fet w wr x lb base wb gb now V V2 Q2 Vw W') (hm : now < 1000000) :
    Calls Try.prog 42 #[.pointer (some ⟨x, 0, none⟩)] wr fun e w' => e = .returned (.bool true) ∧ Fet w w' x lb base wb gb (now + 1) V V2 Q2 Vw W' ∧ Turn (fun k => k < gb) wr w' :=
  (h.epo.advance_yes (by decide) hm (fun _ _ => .inl rfl)).mono fun e w' ⟨he, h1, t1⟩ => ⟨he, h.step L h1 t1 (fun _ => rfl), t1.more (fun k _ hk => h.low2 hk)⟩
theorem same_yes {w : World} {b1 b2 N : Nat} {v1 v2 : Value} {l : List (Int × Int)} (h1 : w.ownsRow b1 51 2 v1 N (cells2 l)) (h2 : w.ownsRow b2 51 2 v2 N (cells2 l)) (hl : l.length = N) (hs : N ≤ 1000000) :
    Calls Try.prog 39 #[v1, v2] w fun e w' => e = .returned (.bool true) ∧ Turn (fun _ => False) w w' :=
  (same_any (l := l) (m := l) (N := N) (by rw [hl]; exact h1) (by rw [hl]; exact h2) hl hl hs).mono fun e w' ⟨he, ht⟩ => ⟨by rw [he, decide_eq_true rfl], ht⟩
end
def GRel (w : World) (x lb base wb gb : Nat) (now : Int) (V Vw : Nat → Value) (Q : Nat → List (Int × Int × Int)) (gh : Nat) (v : Value) (wr : World) : Prop :=
  ∃ (j : Nat) (V2 Vg : Nat → Value) (Q2 : Nat → List (Int × Int × Int)), v = .int .i64 (j : Int) ∧ j ≤ 4 ∧ gh = 4 - j ∧ Fet w wr x lb base wb gb now V V2 Q2 Vw (fun k => (Q k).map ref) ∧ (∀ k, k < 4 → Q2 k = if k < j then kept now (Q k) else Q k) ∧
    Wnt wr gb (gb + 1) Vg (fun k => if k < j then told now (Q k) else [])
def ARel (w : World) (x lb base wb gb : Nat) (now : Int) (V Vw Vg : Nat → Value) (Q : Nat → List (Int × Int × Int)) (gh : Nat) (v : Value) (wr : World) : Prop :=
  ∃ (j : Nat) (V2 : Nat → Value) (Q2 : Nat → List (Int × Int × Int)), v = .int .i64 (j : Int) ∧ j ≤ 4 ∧ gh = 4 - j ∧ Fet w wr x lb base wb gb (now + 1 + 1) V V2 Q2 Vw (fun k => (Q k).map ref) ∧ (∀ k, j ≤ k → k < 4 → Q2 k = kept now (Q k)) ∧
    Got wr gb j Vg (fun k => told now (Q k))

set_option maxRecDepth 100000 in
set_option maxHeartbeats 2000000 in
theorem ripe_walk (ad : Option Addr) (b off len cap : Nat) (had : len = 0 ∨ ad = some ⟨b, off, none⟩) (X : Nat → Int) (mask : Int) (w : World) (hl : Ints w b off len X) (hb : 0 < len → b < w.heap.size) (hlen : len ≤ 9223372036854775807) :
    Calls Try.prog 10 #[.slice ad len cap, .int .i64 mask] w fun e w' => e = .returned (.bool true) ∧ Below w.heap.size w w' := by
  have AW := Lib.hid (epo_awake w)
  have HX := Lib.hid (fun wr (ht : Turn (From w.heap.size) w wr) i (hi : i < len) => show wr.cell? ⟨b, off + i, none⟩ = some (.int .i64 (X i)) from ht.cell (fun e => by have := hb (by omega); unfold From at e; omega) (hl i hi))
  have AD := Lib.hid had
  clear hl hb had
  go_enter Try.func10, Try.ntmps10
  go_wp2_with fail
  refine AW.out.mono ?_
  rintro e w1 ⟨rfl, b1⟩
  have H0 := Lib.hid (epo_new 4 (by decide) (by decide) w1)
  have T1 := Lib.hid (Turn.of_below (S := From w.heap.size) b1)
  clear b1
  go_wp2_with fail
  refine H0.out.mono ?_
  rintro e w2 ⟨rfl, h2, b2, z2⟩
  have z1 := T1.out.size
  have L : Laid w (w1.heap.size + 1) w1.heap.size (w1.heap.size + 3) (w1.heap.size + 2) := ⟨⟨by omega, by omega, by omega, by omega, by omega⟩, by omega, z1, by omega⟩
  have R0 : RRel w (w1.heap.size + 1) w1.heap.size (w1.heap.size + 3) (w1.heap.size + 2) len 20 (.int .i64 0) (w2.alloc (.cells #[.slice none 0 0, .slice none 0 0, .slice none 0 0, .slice none 0 0] 67)) :=
    ⟨0, 0, _, _, _, rfl, Nat.zero_le _, Nat.zero_le _, rfl, Int.le_refl _, (h2.alloc _).rebase (by omega) (by simp; omega) (fun _ _ => ⟨rfl, rfl⟩), wnt_new w2 _ z2.symm _ rfl,
      (T1.out.comp (Turn.of_below (S := From w.heap.size) b2) (fun _ _ e => e)).alloc _, fun k _ => ⟨List.Pairwise.nil, fun q hq => by cases hq⟩, fun k _ => Nat.le_refl _⟩
  have L := Lib.hid L
  clear h2 b2 z1
  go_wp2_with fail
  generalize w2.alloc (.cells #[.slice none 0 0, .slice none 0 0, .slice none 0 0, .slice none 0 0] 67) = w3 at *
  generalize w1.heap.size + 1 = x at *
  generalize w1.heap.size + 2 = wb at *
  generalize w1.heap.size + 3 = base at *
  generalize w1.heap.size = lb at *
  clear z2
  go_loopg [8] 20 (fun gh v8 wr => RRel w x lb base wb len gh v8 wr)
  case atStart => exact R0
  case round =>
    clear R0
    obtain ⟨i, now, V, Q, Vw, rfl, hi, hi20, hg, hnow, hR⟩ := hrel
    by_cases hil : i < len
    · by_cases hi2 : i < 20
      · obtain rfl := AD.out.resolve_left (by omega)
        obtain ⟨R, r0, r4, HR⟩ := rest_epo (X i) 4 (by decide) (by decide)
        obtain ⟨a, rfl⟩ : ∃ a : Nat, R = (a : Int) := ⟨R.toNat, by omega⟩
        have a4 : a < 4 := by omega
        have HR := Lib.hid HR
        have hx := HX.out wr hR.tr i hil
        have hi2' : (i : Int) < 20 := by omega
        clear r0 r4
        -- the turn with or without an advance
        have hA : (((bits BinOp.and IntKind.i64 (mask / 2 ^ i) 1 == 1) = true) ∨ ((bits BinOp.and IntKind.i64 (mask / 2 ^ i) 1 == 1) = false)) := by
          cases (bits BinOp.and IntKind.i64 (mask / 2 ^ i) 1 == 1) <;> simp
        have E := Lib.hid (And.intro hg (And.intro hnow hR))
        rcases hA with hbit | hbit
        · have C := Lib.hid (RSt.adv L.out hR (by omega))
          clear hR hg hnow
          go_wp2_with fail
          refine (HR.out _).mono ?_
          rintro e w4 ⟨rfl, rfl⟩
          clear hx
          go_wp2_with fail
          refine C.out.mono ?_
          rintro e w4 ⟨rfl, hR⟩
          have hnow : now + 1 ≤ (i : Int) + 1 := by have := E.out.2.1; omega
          have hg := E.out.1
          clear E C
          generalize now + 1 = now1 at *
          clear now
          have c0 : (w4.alloc (.cells #[.int .i64 (i : Int), .int .i64 (a : Int)] 51)).cell? ⟨w4.heap.size, 0, none⟩ = some (.int .i64 (i : Int)) := World.cell?_alloc_new w4 #[.int .i64 (i : Int), .int .i64 (a : Int)] 51 0
          have c1 : (w4.alloc (.cells #[.int .i64 (i : Int), .int .i64 (a : Int)] 51)).cell? ⟨w4.heap.size, 1, none⟩ = some (.int .i64 (a : Int)) := World.cell?_alloc_new w4 #[.int .i64 (i : Int), .int .i64 (a : Int)] 51 1
          have hR' := hR.alloc (.cells #[.int .i64 (i : Int), .int .i64 (a : Int)] 51)
          have C := Lib.hid (hR'.epo.retire a4 (i : Int) (a : Int) (by have := hR.len a a4; omega))
          have E := Lib.hid (And.intro hg (And.intro hnow (And.intro hR (And.intro hR' (And.intro c0 c1)))))
          clear hR hg hnow hR'
          go_wp2_with fail
          refine C.out.mono ?_
          rintro e w5 ⟨rfl, v5, h5, t5⟩
          clear c0 c1
          obtain ⟨hg, hnow, hR, hR', c0, c1⟩ := E.out
          have hrb : ¬ EpoOwn x lb 4 V w4.heap.size := fun e => by
            have q1 := hR.epo.bx
            have q2 := hR.epo.bl
            have q3 := hR.epo.bw
            rcases e with e | e | ⟨k, hk, e⟩
            · omega
            · omega
            · have := ((hR.epo.rows k hk).lt _ e).2
              omega
          have b0 := t5.cell hrb c0
          have b1 := t5.cell hrb c1
          have g5 := hR'.wnt.keepE hR'.epo L.out.off t5
          have tr5 := L.out.epoS hR'.epo t5 hR'.tr
          have nrw : w4.heap.size ≠ wb := by have := hR.wnt.lw; have := hR.wnt.bw; omega
          have nrv : (Vw a).ownBlock ≠ some w4.heap.size := fun e => by have := ((hR.wnt.rows a a4).lt _ e).2; omega
          generalize w4.heap.size = rb at *
          have F := Lib.hid (And.intro hg (And.intro hnow (And.intro h5 (And.intro g5 (And.intro tr5 (And.intro hR.srt hR.len))))))
          have hl20 := hR.len a a4
          have cv := g5.cv a a4
          have fw := g5.fz a
          have rows := g5.rows a a4
          have bw5 := g5.bw
          have nvw : (Vw a).ownBlock ≠ some wb := fun e => by have := ((g5.rows a a4).lt _ e).1; have := g5.lw; omega
          have wlt : wb < w5.heap.size := block_lt_of_cell cv
          have rlt : rb < w5.heap.size := block_lt_of_cell b0
          have an : ((a : Int)) < 4 := by omega
          rw [List.length_map] at rows
          obtain ⟨i3, j1, j2, j3, j4⟩ := info_parts info51
          clear hR hR' hg hnow h5 t5 g5 tr5 c0 c1 E C hrb
          generalize hVa : Vw a = va at cv rows nvw nrv
          obtain ⟨ad, cap1, ev, _⟩ := own_slice rows
          subst ev
          have cv2 : (w5.alloc (.cells #[.int .i64 (i : Int), .int .i64 (a : Int)] 51)).cell? ⟨wb, a, none⟩ = some (.slice ad (Q a).length cap1) := past cv
          go_wp2_with fail
          refine wp_region_held_drew (S := (fun w' => w'.cell? ⟨rb, 0, none⟩ = some (.int .i64 (i : Int)) ∧ w'.cell? ⟨rb, 1, none⟩ = some (.int .i64 (a : Int)))) (by kernel_rfl) ?hs0 (fun hS0 => ?_)
          case hs0 => ((try dsimp only); first | (go_keep; done) | (refine ⟨?_, ?_⟩ <;> (go_keep; done)) | exact ⟨(cell_far _ _ _ _ _ _ (Ne.symm nrw)).trans k4, (cell_far _ _ _ _ _ _ (Ne.symm nrw)).trans k5⟩)
          refine wpAnyH_take (i := 0) (oi := { dst := some 53, op := Op.move (Operand.tmp 9), type := 3, pos := "law.go:128", after := #[], guard := none }) (v := ?_) rfl (by kernel_rfl) (by kernel_rfl) (by kernel_rfl) (fun _ _ _ h => h) (Or.inl ⟨by rfl, ?hy1⟩) hS0 ?_
          case hy1 => (intro w hSw; (try dsimp only at hSw); go_simp; try with_reducible rfl)
          try simp only [Act.put, List.setIfInBounds_toArray, List.set_cons_zero, List.set_cons_succ]
          refine wpAnyH_take (i := 1) (oi := { dst := some 54, op := Op.move (Operand.tmp 9), type := 3, pos := "law.go:128", after := #[], guard := none }) (v := ?_) rfl (by kernel_rfl) (by kernel_rfl) (by kernel_rfl) (fun _ _ _ h => h) (Or.inl ⟨by rfl, ?hy2⟩) hS0 ?_
          case hy2 => (intro w hSw; (try dsimp only at hSw); go_simp; try with_reducible rfl)
          try simp only [Act.put, List.setIfInBounds_toArray, List.set_cons_zero, List.set_cons_succ]
          refine wpAnyH_take (i := 2) (oi := { dst := some 55, op := Op.indexAddr 67 (Operand.tmp 7) (Operand.tmp 54), type := 0, pos := "law.go:128", after := #[{ on := 1, ground := Ground.data }], guard := none }) (v := ?_) rfl (by kernel_rfl) (by kernel_rfl) (by kernel_rfl) (fun _ _ _ h => h) (Or.inl ⟨by rfl, ?hy3⟩) hS0 ?_
          case hy3 => (intro w hSw; (try dsimp only at hSw); go_simp; try with_reducible rfl)
          try simp only [Act.put, List.setIfInBounds_toArray, List.set_cons_zero, List.set_cons_succ]
          refine wpAnyH_take (i := 4) (oi := { dst := some 57, op := Op.load 51 (Operand.tmp 10), type := 51, pos := "law.go:128", after := #[], guard := none }) (v := ?_) rfl (by kernel_rfl) (by kernel_rfl) (by kernel_rfl) (fun _ _ _ h => h) (Or.inl ⟨by rfl, ?hy4⟩) hS0 ?_
          case hy4 => (intro w hSw; (try dsimp only at hSw); go_simp; try with_reducible rfl)
          try simp only [Act.put, List.setIfInBounds_toArray, List.set_cons_zero, List.set_cons_succ]
          refine wpAnyH_ready (rs := [3, 5]) (by kernel_rfl) (by simp) ?_
          refine AllReadyH.cons (o := { dst := some 56, op := Op.load 53 (Operand.tmp 55), type := 53, pos := "law.go:128", after := #[{ on := 2, ground := Ground.data }], guard := none }) rfl (fun K hK => ?_) ?_
          · go_simp
            refine hK.out _ _ ?hs5 (fun hS5 => ?_)
            case hs5 => ((try dsimp only); first | (go_keep; done) | (refine ⟨?_, ?_⟩ <;> (go_keep; done)) | exact ⟨(cell_far _ _ _ _ _ _ (Ne.symm nrw)).trans k4, (cell_far _ _ _ _ _ _ (Ne.symm nrw)).trans k5⟩)
            clear hK K hS0
            refine wpAnyH_ready (rs := [5]) (by kernel_rfl) (by simp) ?_
            refine AllReadyH.cons (o := { dst := some 58, op := Op.buildSlice 53 1 #[(0, Operand.tmp 57)], type := 53, pos := "law.go:128", after := #[{ on := 4, ground := Ground.data }], guard := none }) rfl (fun K hK => ?_) ?_
            · go_simp
              refine hK.out _ _ ?hs6 (fun hS6 => ?_)
              case hs6 => ((try dsimp only); first | (go_keep; done) | (refine ⟨?_, ?_⟩ <;> (go_keep; done)) | exact ⟨(cell_far _ _ _ _ _ _ (Ne.symm nrw)).trans k4, (cell_far _ _ _ _ _ _ (Ne.symm nrw)).trans k5⟩)
              clear hK K hS5
              refine wpAnyH_ready (rs := [6]) (by kernel_rfl) (by simp) ?_
              refine AllReadyH.cons (o := { dst := some 59, op := Op.call { callee := Callee.builtin Builtin.append, args := #[Operand.tmp 56, Operand.tmp 58], argTypes := #[53, 53] }, type := 53, pos := "law.go:128", after := #[{ on := 3, ground := Ground.data }, { on := 5, ground := Ground.data }], guard := none }) rfl (fun K hK => ?_) ?_
              · (refine step_append_lies _ (by rfl) _ _ _ (by rfl) base 51 i3 _ 2 16 Try.underlying53 j1 j2 j3 j4 rfl (by omega) (.slice ad (Q a).length cap1) (Q a).length (cells2 ((Q a).map ref)) (by rfl) ((rows.alloc _).drew) ⟨w5.heap.size, 0, none⟩ 1 1 [.int .i64 (i : Int), .int .i64 (a : Int)] (by rfl) (by rfl) (World.news_of_block (cs := #[.int .i64 (i : Int), .int .i64 (a : Int)]) (t := 51) (fr := (0, 0)) (heap_alloc_new w5 _)) (by simp [Value.oneCell']) (by omega) (by unfold maxLen; omega) (by omega) (by simp; omega) (w5.heap.size + 1) (by simp) ?_; intro gg cap2 w6 hown1 hgrow hat hlt; have f1 : w6.frozen? ⟨wb, a, none⟩ = false := (by rw [hgrow.frozen_far _ (by simp; omega) (Ne.symm nvw)]; exact (frozen?_alloc_cells _ _ _ _).trans fw); have k1 : w6.cell? ⟨wb, a, none⟩ = some (.slice ad (Q a).length cap1) := (by rw [hgrow.cell_far _ (by simp; omega) (Ne.symm nvw)]; exact past cv); have k4 : w6.cell? ⟨rb, 0, none⟩ = some (.int .i64 (i : Int)) := (by rw [hgrow.cell_far _ (by simp; omega) (Ne.symm nrv)]; exact past b0); have k5 : w6.cell? ⟨rb, 1, none⟩ = some (.int .i64 (a : Int)) := (by rw [hgrow.cell_far _ (by simp; omega) (Ne.symm nrv)]; exact past b1))
                refine hK.out _ _ ?hs7 (fun hS7 => ?_)
                case hs7 => ((try dsimp only); first | (go_keep; done) | (refine ⟨?_, ?_⟩ <;> (go_keep; done)) | exact ⟨(cell_far _ _ _ _ _ _ (Ne.symm nrw)).trans k4, (cell_far _ _ _ _ _ _ (Ne.symm nrw)).trans k5⟩)
                clear hK K hS6
                refine wpAnyH_ready (rs := [7]) (by kernel_rfl) (by simp) ?_
                refine AllReadyH.cons (o := { dst := some 60, op := Op.indexAddr 67 (Operand.tmp 7) (Operand.tmp 53), type := 0, pos := "law.go:128", after := #[{ on := 0, ground := Ground.data }, { on := 0, ground := Ground.phase }, { on := 1, ground := Ground.phase }, { on := 2, ground := Ground.phase }, { on := 3, ground := Ground.phase }, { on := 4, ground := Ground.phase }, { on := 5, ground := Ground.phase }, { on := 6, ground := Ground.phase }], guard := none }) rfl (fun K hK => ?_) ?_
                · go_simp
                  refine hK.out _ _ ?hs8 (fun hS8 => ?_)
                  case hs8 => ((try dsimp only); first | (go_keep; done) | (refine ⟨?_, ?_⟩ <;> (go_keep; done)) | exact ⟨(cell_far _ _ _ _ _ _ (Ne.symm nrw)).trans k4, (cell_far _ _ _ _ _ _ (Ne.symm nrw)).trans k5⟩)
                  clear hK K hS7
                  refine wpAnyH_ready (rs := [8]) (by kernel_rfl) (by simp) ?_
                  refine AllReadyH.cons (o := { dst := none, op := Op.store 53 (Operand.tmp 60) (Operand.tmp 59), type := 0, pos := "law.go:128", after := #[{ on := 7, ground := Ground.data }, { on := 6, ground := Ground.data }, { on := 6, ground := Ground.chain }, { on := 0, ground := Ground.phase }, { on := 1, ground := Ground.phase }, { on := 2, ground := Ground.phase }, { on := 3, ground := Ground.phase }, { on := 4, ground := Ground.phase }, { on := 5, ground := Ground.phase }, { on := 6, ground := Ground.phase }], guard := none }) rfl (fun K hK => ?_) ?_
                  · go_simp
                    refine hK.out _ _ ?hs9 (fun hS9 => ?_)
                    case hs9 => ((try dsimp only); first | (go_keep; done) | (refine ⟨?_, ?_⟩ <;> (go_keep; done)) | exact ⟨(cell_far _ _ _ _ _ _ (Ne.symm nrw)).trans k4, (cell_far _ _ _ _ _ _ (Ne.symm nrw)).trans k5⟩)
                    clear hK K hS8
                    refine wpAnyH_done (by kernel_rfl) ?_ _
                    obtain ⟨hg, hnow, h5, g5, tr5, hsrt, hlen⟩ := F.out
                    obtain ⟨Vw', Z⟩ := RSt.stored L.out h5 g5 tr5 hsrt hlen a4 (by rw [hVa]; exact hgrow) hown1 (by rw [hVa]; exact hat)
                    have Z := Lib.hid Z
                    clear hg h5 g5 tr5 hsrt hlen
                    go_wp2_with fail
                    go_roundg (20 - (i + 1))
                    case measure => have := F.out.1; omega
                    case rel => exact ⟨i + 1, now1, _, _, Vw', by go_num, by omega, by omega, rfl, by omega, Z.out⟩
                  exact AllReadyH.nil
                exact AllReadyH.nil
              exact AllReadyH.nil
            exact AllReadyH.nil
          refine AllReadyH.cons (o := { dst := some 58, op := Op.buildSlice 53 1 #[(0, Operand.tmp 57)], type := 53, pos := "law.go:128", after := #[{ on := 4, ground := Ground.data }], guard := none }) rfl (fun K hK => ?_) ?_
          · go_simp
            refine hK.out _ _ ?hs10 (fun hS10 => ?_)
            case hs10 => ((try dsimp only); first | (go_keep; done) | (refine ⟨?_, ?_⟩ <;> (go_keep; done)) | exact ⟨(cell_far _ _ _ _ _ _ (Ne.symm nrw)).trans k4, (cell_far _ _ _ _ _ _ (Ne.symm nrw)).trans k5⟩)
            clear hK K hS0
            refine wpAnyH_ready (rs := [3]) (by kernel_rfl) (by simp) ?_
            refine AllReadyH.cons (o := { dst := some 56, op := Op.load 53 (Operand.tmp 55), type := 53, pos := "law.go:128", after := #[{ on := 2, ground := Ground.data }], guard := none }) rfl (fun K hK => ?_) ?_
            · go_simp
              refine hK.out _ _ ?hs11 (fun hS11 => ?_)
              case hs11 => ((try dsimp only); first | (go_keep; done) | (refine ⟨?_, ?_⟩ <;> (go_keep; done)) | exact ⟨(cell_far _ _ _ _ _ _ (Ne.symm nrw)).trans k4, (cell_far _ _ _ _ _ _ (Ne.symm nrw)).trans k5⟩)
              clear hK K hS10
              refine wpAnyH_ready (rs := [6]) (by kernel_rfl) (by simp) ?_
              refine AllReadyH.cons (o := { dst := some 59, op := Op.call { callee := Callee.builtin Builtin.append, args := #[Operand.tmp 56, Operand.tmp 58], argTypes := #[53, 53] }, type := 53, pos := "law.go:128", after := #[{ on := 3, ground := Ground.data }, { on := 5, ground := Ground.data }], guard := none }) rfl (fun K hK => ?_) ?_
              · (refine step_append_lies _ (by rfl) _ _ _ (by rfl) base 51 i3 _ 2 16 Try.underlying53 j1 j2 j3 j4 rfl (by omega) (.slice ad (Q a).length cap1) (Q a).length (cells2 ((Q a).map ref)) (by rfl) ((rows.alloc _).drew) ⟨w5.heap.size, 0, none⟩ 1 1 [.int .i64 (i : Int), .int .i64 (a : Int)] (by rfl) (by rfl) (World.news_of_block (cs := #[.int .i64 (i : Int), .int .i64 (a : Int)]) (t := 51) (fr := (0, 0)) (heap_alloc_new w5 _)) (by simp [Value.oneCell']) (by omega) (by unfold maxLen; omega) (by omega) (by simp; omega) (w5.heap.size + 1) (by simp) ?_; intro gg cap2 w6 hown1 hgrow hat hlt; have f1 : w6.frozen? ⟨wb, a, none⟩ = false := (by rw [hgrow.frozen_far _ (by simp; omega) (Ne.symm nvw)]; exact (frozen?_alloc_cells _ _ _ _).trans fw); have k1 : w6.cell? ⟨wb, a, none⟩ = some (.slice ad (Q a).length cap1) := (by rw [hgrow.cell_far _ (by simp; omega) (Ne.symm nvw)]; exact past cv); have k4 : w6.cell? ⟨rb, 0, none⟩ = some (.int .i64 (i : Int)) := (by rw [hgrow.cell_far _ (by simp; omega) (Ne.symm nrv)]; exact past b0); have k5 : w6.cell? ⟨rb, 1, none⟩ = some (.int .i64 (a : Int)) := (by rw [hgrow.cell_far _ (by simp; omega) (Ne.symm nrv)]; exact past b1))
                refine hK.out _ _ ?hs12 (fun hS12 => ?_)
                case hs12 => ((try dsimp only); first | (go_keep; done) | (refine ⟨?_, ?_⟩ <;> (go_keep; done)) | exact ⟨(cell_far _ _ _ _ _ _ (Ne.symm nrw)).trans k4, (cell_far _ _ _ _ _ _ (Ne.symm nrw)).trans k5⟩)
                clear hK K hS11
                refine wpAnyH_ready (rs := [7]) (by kernel_rfl) (by simp) ?_
                refine AllReadyH.cons (o := { dst := some 60, op := Op.indexAddr 67 (Operand.tmp 7) (Operand.tmp 53), type := 0, pos := "law.go:128", after := #[{ on := 0, ground := Ground.data }, { on := 0, ground := Ground.phase }, { on := 1, ground := Ground.phase }, { on := 2, ground := Ground.phase }, { on := 3, ground := Ground.phase }, { on := 4, ground := Ground.phase }, { on := 5, ground := Ground.phase }, { on := 6, ground := Ground.phase }], guard := none }) rfl (fun K hK => ?_) ?_
                · go_simp
                  refine hK.out _ _ ?hs13 (fun hS13 => ?_)
                  case hs13 => ((try dsimp only); first | (go_keep; done) | (refine ⟨?_, ?_⟩ <;> (go_keep; done)) | exact ⟨(cell_far _ _ _ _ _ _ (Ne.symm nrw)).trans k4, (cell_far _ _ _ _ _ _ (Ne.symm nrw)).trans k5⟩)
                  clear hK K hS12
                  refine wpAnyH_ready (rs := [8]) (by kernel_rfl) (by simp) ?_
                  refine AllReadyH.cons (o := { dst := none, op := Op.store 53 (Operand.tmp 60) (Operand.tmp 59), type := 0, pos := "law.go:128", after := #[{ on := 7, ground := Ground.data }, { on := 6, ground := Ground.data }, { on := 6, ground := Ground.chain }, { on := 0, ground := Ground.phase }, { on := 1, ground := Ground.phase }, { on := 2, ground := Ground.phase }, { on := 3, ground := Ground.phase }, { on := 4, ground := Ground.phase }, { on := 5, ground := Ground.phase }, { on := 6, ground := Ground.phase }], guard := none }) rfl (fun K hK => ?_) ?_
                  · go_simp
                    refine hK.out _ _ ?hs14 (fun hS14 => ?_)
                    case hs14 => ((try dsimp only); first | (go_keep; done) | (refine ⟨?_, ?_⟩ <;> (go_keep; done)) | exact ⟨(cell_far _ _ _ _ _ _ (Ne.symm nrw)).trans k4, (cell_far _ _ _ _ _ _ (Ne.symm nrw)).trans k5⟩)
                    clear hK K hS13
                    refine wpAnyH_done (by kernel_rfl) ?_ _
                    obtain ⟨hg, hnow, h5, g5, tr5, hsrt, hlen⟩ := F.out
                    obtain ⟨Vw', Z⟩ := RSt.stored L.out h5 g5 tr5 hsrt hlen a4 (by rw [hVa]; exact hgrow) hown1 (by rw [hVa]; exact hat)
                    have Z := Lib.hid Z
                    clear hg h5 g5 tr5 hsrt hlen
                    go_wp2_with fail
                    go_roundg (20 - (i + 1))
                    case measure => have := F.out.1; omega
                    case rel => exact ⟨i + 1, now1, _, _, Vw', by go_num, by omega, by omega, rfl, by omega, Z.out⟩
                  exact AllReadyH.nil
                exact AllReadyH.nil
              exact AllReadyH.nil
            exact AllReadyH.nil
          exact AllReadyH.nil

        · have hnow2 : now ≤ (i : Int) + 1 := by omega
          clear hnow
          have hnow := hnow2
          clear hnow2 E
          go_wp2_with fail
          refine (HR.out _).mono ?_
          rintro e w4 ⟨rfl, rfl⟩
          clear hx
          generalize now = now1 at *
          have c0 : (wr.alloc (.cells #[.int .i64 (i : Int), .int .i64 (a : Int)] 51)).cell? ⟨wr.heap.size, 0, none⟩ = some (.int .i64 (i : Int)) := World.cell?_alloc_new wr #[.int .i64 (i : Int), .int .i64 (a : Int)] 51 0
          have c1 : (wr.alloc (.cells #[.int .i64 (i : Int), .int .i64 (a : Int)] 51)).cell? ⟨wr.heap.size, 1, none⟩ = some (.int .i64 (a : Int)) := World.cell?_alloc_new wr #[.int .i64 (i : Int), .int .i64 (a : Int)] 51 1
          have hR' := hR.alloc (.cells #[.int .i64 (i : Int), .int .i64 (a : Int)] 51)
          have C := Lib.hid (hR'.epo.retire a4 (i : Int) (a : Int) (by have := hR.len a a4; omega))
          have E := Lib.hid (And.intro hg (And.intro hnow (And.intro hR (And.intro hR' (And.intro c0 c1)))))
          clear hR hg hnow hR'
          go_wp2_with fail
          refine C.out.mono ?_
          rintro e w5 ⟨rfl, v5, h5, t5⟩
          clear c0 c1
          obtain ⟨hg, hnow, hR, hR', c0, c1⟩ := E.out
          have hrb : ¬ EpoOwn x lb 4 V wr.heap.size := fun e => by
            have q1 := hR.epo.bx
            have q2 := hR.epo.bl
            have q3 := hR.epo.bw
            rcases e with e | e | ⟨k, hk, e⟩
            · omega
            · omega
            · have := ((hR.epo.rows k hk).lt _ e).2
              omega
          have b0 := t5.cell hrb c0
          have b1 := t5.cell hrb c1
          have g5 := hR'.wnt.keepE hR'.epo L.out.off t5
          have tr5 := L.out.epoS hR'.epo t5 hR'.tr
          have nrw : wr.heap.size ≠ wb := by have := hR.wnt.lw; have := hR.wnt.bw; omega
          have nrv : (Vw a).ownBlock ≠ some wr.heap.size := fun e => by have := ((hR.wnt.rows a a4).lt _ e).2; omega
          generalize wr.heap.size = rb at *
          have F := Lib.hid (And.intro hg (And.intro hnow (And.intro h5 (And.intro g5 (And.intro tr5 (And.intro hR.srt hR.len))))))
          have hl20 := hR.len a a4
          have cv := g5.cv a a4
          have fw := g5.fz a
          have rows := g5.rows a a4
          have bw5 := g5.bw
          have nvw : (Vw a).ownBlock ≠ some wb := fun e => by have := ((g5.rows a a4).lt _ e).1; have := g5.lw; omega
          have wlt : wb < w5.heap.size := block_lt_of_cell cv
          have rlt : rb < w5.heap.size := block_lt_of_cell b0
          have an : ((a : Int)) < 4 := by omega
          rw [List.length_map] at rows
          obtain ⟨i3, j1, j2, j3, j4⟩ := info_parts info51
          clear hR hR' hg hnow h5 t5 g5 tr5 c0 c1 E C hrb
          generalize hVa : Vw a = va at cv rows nvw nrv
          obtain ⟨ad, cap1, ev, _⟩ := own_slice rows
          subst ev
          have cv2 : (w5.alloc (.cells #[.int .i64 (i : Int), .int .i64 (a : Int)] 51)).cell? ⟨wb, a, none⟩ = some (.slice ad (Q a).length cap1) := past cv
          go_wp2_with fail
          refine wp_region_held_drew (S := (fun w' => w'.cell? ⟨rb, 0, none⟩ = some (.int .i64 (i : Int)) ∧ w'.cell? ⟨rb, 1, none⟩ = some (.int .i64 (a : Int)))) (by kernel_rfl) ?hs0 (fun hS0 => ?_)
          case hs0 => ((try dsimp only); first | (go_keep; done) | (refine ⟨?_, ?_⟩ <;> (go_keep; done)) | exact ⟨(cell_far _ _ _ _ _ _ (Ne.symm nrw)).trans k4, (cell_far _ _ _ _ _ _ (Ne.symm nrw)).trans k5⟩)
          refine wpAnyH_take (i := 0) (oi := { dst := some 53, op := Op.move (Operand.tmp 9), type := 3, pos := "law.go:128", after := #[], guard := none }) (v := ?_) rfl (by kernel_rfl) (by kernel_rfl) (by kernel_rfl) (fun _ _ _ h => h) (Or.inl ⟨by rfl, ?hy1⟩) hS0 ?_
          case hy1 => (intro w hSw; (try dsimp only at hSw); go_simp; try with_reducible rfl)
          try simp only [Act.put, List.setIfInBounds_toArray, List.set_cons_zero, List.set_cons_succ]
          refine wpAnyH_take (i := 1) (oi := { dst := some 54, op := Op.move (Operand.tmp 9), type := 3, pos := "law.go:128", after := #[], guard := none }) (v := ?_) rfl (by kernel_rfl) (by kernel_rfl) (by kernel_rfl) (fun _ _ _ h => h) (Or.inl ⟨by rfl, ?hy2⟩) hS0 ?_
          case hy2 => (intro w hSw; (try dsimp only at hSw); go_simp; try with_reducible rfl)
          try simp only [Act.put, List.setIfInBounds_toArray, List.set_cons_zero, List.set_cons_succ]
          refine wpAnyH_take (i := 2) (oi := { dst := some 55, op := Op.indexAddr 67 (Operand.tmp 7) (Operand.tmp 54), type := 0, pos := "law.go:128", after := #[{ on := 1, ground := Ground.data }], guard := none }) (v := ?_) rfl (by kernel_rfl) (by kernel_rfl) (by kernel_rfl) (fun _ _ _ h => h) (Or.inl ⟨by rfl, ?hy3⟩) hS0 ?_
          case hy3 => (intro w hSw; (try dsimp only at hSw); go_simp; try with_reducible rfl)
          try simp only [Act.put, List.setIfInBounds_toArray, List.set_cons_zero, List.set_cons_succ]
          refine wpAnyH_take (i := 4) (oi := { dst := some 57, op := Op.load 51 (Operand.tmp 10), type := 51, pos := "law.go:128", after := #[], guard := none }) (v := ?_) rfl (by kernel_rfl) (by kernel_rfl) (by kernel_rfl) (fun _ _ _ h => h) (Or.inl ⟨by rfl, ?hy4⟩) hS0 ?_
          case hy4 => (intro w hSw; (try dsimp only at hSw); go_simp; try with_reducible rfl)
          try simp only [Act.put, List.setIfInBounds_toArray, List.set_cons_zero, List.set_cons_succ]
          refine wpAnyH_ready (rs := [3, 5]) (by kernel_rfl) (by simp) ?_
          refine AllReadyH.cons (o := { dst := some 56, op := Op.load 53 (Operand.tmp 55), type := 53, pos := "law.go:128", after := #[{ on := 2, ground := Ground.data }], guard := none }) rfl (fun K hK => ?_) ?_
          · go_simp
            refine hK.out _ _ ?hs5 (fun hS5 => ?_)
            case hs5 => ((try dsimp only); first | (go_keep; done) | (refine ⟨?_, ?_⟩ <;> (go_keep; done)) | exact ⟨(cell_far _ _ _ _ _ _ (Ne.symm nrw)).trans k4, (cell_far _ _ _ _ _ _ (Ne.symm nrw)).trans k5⟩)
            clear hK K hS0
            refine wpAnyH_ready (rs := [5]) (by kernel_rfl) (by simp) ?_
            refine AllReadyH.cons (o := { dst := some 58, op := Op.buildSlice 53 1 #[(0, Operand.tmp 57)], type := 53, pos := "law.go:128", after := #[{ on := 4, ground := Ground.data }], guard := none }) rfl (fun K hK => ?_) ?_
            · go_simp
              refine hK.out _ _ ?hs6 (fun hS6 => ?_)
              case hs6 => ((try dsimp only); first | (go_keep; done) | (refine ⟨?_, ?_⟩ <;> (go_keep; done)) | exact ⟨(cell_far _ _ _ _ _ _ (Ne.symm nrw)).trans k4, (cell_far _ _ _ _ _ _ (Ne.symm nrw)).trans k5⟩)
              clear hK K hS5
              refine wpAnyH_ready (rs := [6]) (by kernel_rfl) (by simp) ?_
              refine AllReadyH.cons (o := { dst := some 59, op := Op.call { callee := Callee.builtin Builtin.append, args := #[Operand.tmp 56, Operand.tmp 58], argTypes := #[53, 53] }, type := 53, pos := "law.go:128", after := #[{ on := 3, ground := Ground.data }, { on := 5, ground := Ground.data }], guard := none }) rfl (fun K hK => ?_) ?_
              · (refine step_append_lies _ (by rfl) _ _ _ (by rfl) base 51 i3 _ 2 16 Try.underlying53 j1 j2 j3 j4 rfl (by omega) (.slice ad (Q a).length cap1) (Q a).length (cells2 ((Q a).map ref)) (by rfl) ((rows.alloc _).drew) ⟨w5.heap.size, 0, none⟩ 1 1 [.int .i64 (i : Int), .int .i64 (a : Int)] (by rfl) (by rfl) (World.news_of_block (cs := #[.int .i64 (i : Int), .int .i64 (a : Int)]) (t := 51) (fr := (0, 0)) (heap_alloc_new w5 _)) (by simp [Value.oneCell']) (by omega) (by unfold maxLen; omega) (by omega) (by simp; omega) (w5.heap.size + 1) (by simp) ?_; intro gg cap2 w6 hown1 hgrow hat hlt; have f1 : w6.frozen? ⟨wb, a, none⟩ = false := (by rw [hgrow.frozen_far _ (by simp; omega) (Ne.symm nvw)]; exact (frozen?_alloc_cells _ _ _ _).trans fw); have k1 : w6.cell? ⟨wb, a, none⟩ = some (.slice ad (Q a).length cap1) := (by rw [hgrow.cell_far _ (by simp; omega) (Ne.symm nvw)]; exact past cv); have k4 : w6.cell? ⟨rb, 0, none⟩ = some (.int .i64 (i : Int)) := (by rw [hgrow.cell_far _ (by simp; omega) (Ne.symm nrv)]; exact past b0); have k5 : w6.cell? ⟨rb, 1, none⟩ = some (.int .i64 (a : Int)) := (by rw [hgrow.cell_far _ (by simp; omega) (Ne.symm nrv)]; exact past b1))
                refine hK.out _ _ ?hs7 (fun hS7 => ?_)
                case hs7 => ((try dsimp only); first | (go_keep; done) | (refine ⟨?_, ?_⟩ <;> (go_keep; done)) | exact ⟨(cell_far _ _ _ _ _ _ (Ne.symm nrw)).trans k4, (cell_far _ _ _ _ _ _ (Ne.symm nrw)).trans k5⟩)
                clear hK K hS6
                refine wpAnyH_ready (rs := [7]) (by kernel_rfl) (by simp) ?_
                refine AllReadyH.cons (o := { dst := some 60, op := Op.indexAddr 67 (Operand.tmp 7) (Operand.tmp 53), type := 0, pos := "law.go:128", after := #[{ on := 0, ground := Ground.data }, { on := 0, ground := Ground.phase }, { on := 1, ground := Ground.phase }, { on := 2, ground := Ground.phase }, { on := 3, ground := Ground.phase }, { on := 4, ground := Ground.phase }, { on := 5, ground := Ground.phase }, { on := 6, ground := Ground.phase }], guard := none }) rfl (fun K hK => ?_) ?_
                · go_simp
                  refine hK.out _ _ ?hs8 (fun hS8 => ?_)
                  case hs8 => ((try dsimp only); first | (go_keep; done) | (refine ⟨?_, ?_⟩ <;> (go_keep; done)) | exact ⟨(cell_far _ _ _ _ _ _ (Ne.symm nrw)).trans k4, (cell_far _ _ _ _ _ _ (Ne.symm nrw)).trans k5⟩)
                  clear hK K hS7
                  refine wpAnyH_ready (rs := [8]) (by kernel_rfl) (by simp) ?_
                  refine AllReadyH.cons (o := { dst := none, op := Op.store 53 (Operand.tmp 60) (Operand.tmp 59), type := 0, pos := "law.go:128", after := #[{ on := 7, ground := Ground.data }, { on := 6, ground := Ground.data }, { on := 6, ground := Ground.chain }, { on := 0, ground := Ground.phase }, { on := 1, ground := Ground.phase }, { on := 2, ground := Ground.phase }, { on := 3, ground := Ground.phase }, { on := 4, ground := Ground.phase }, { on := 5, ground := Ground.phase }, { on := 6, ground := Ground.phase }], guard := none }) rfl (fun K hK => ?_) ?_
                  · go_simp
                    refine hK.out _ _ ?hs9 (fun hS9 => ?_)
                    case hs9 => ((try dsimp only); first | (go_keep; done) | (refine ⟨?_, ?_⟩ <;> (go_keep; done)) | exact ⟨(cell_far _ _ _ _ _ _ (Ne.symm nrw)).trans k4, (cell_far _ _ _ _ _ _ (Ne.symm nrw)).trans k5⟩)
                    clear hK K hS8
                    refine wpAnyH_done (by kernel_rfl) ?_ _
                    obtain ⟨hg, hnow, h5, g5, tr5, hsrt, hlen⟩ := F.out
                    obtain ⟨Vw', Z⟩ := RSt.stored L.out h5 g5 tr5 hsrt hlen a4 (by rw [hVa]; exact hgrow) hown1 (by rw [hVa]; exact hat)
                    have Z := Lib.hid Z
                    clear hg h5 g5 tr5 hsrt hlen
                    go_wp2_with fail
                    go_roundg (20 - (i + 1))
                    case measure => have := F.out.1; omega
                    case rel => exact ⟨i + 1, now1, _, _, Vw', by go_num, by omega, by omega, rfl, by omega, Z.out⟩
                  exact AllReadyH.nil
                exact AllReadyH.nil
              exact AllReadyH.nil
            exact AllReadyH.nil
          refine AllReadyH.cons (o := { dst := some 58, op := Op.buildSlice 53 1 #[(0, Operand.tmp 57)], type := 53, pos := "law.go:128", after := #[{ on := 4, ground := Ground.data }], guard := none }) rfl (fun K hK => ?_) ?_
          · go_simp
            refine hK.out _ _ ?hs10 (fun hS10 => ?_)
            case hs10 => ((try dsimp only); first | (go_keep; done) | (refine ⟨?_, ?_⟩ <;> (go_keep; done)) | exact ⟨(cell_far _ _ _ _ _ _ (Ne.symm nrw)).trans k4, (cell_far _ _ _ _ _ _ (Ne.symm nrw)).trans k5⟩)
            clear hK K hS0
            refine wpAnyH_ready (rs := [3]) (by kernel_rfl) (by simp) ?_
            refine AllReadyH.cons (o := { dst := some 56, op := Op.load 53 (Operand.tmp 55), type := 53, pos := "law.go:128", after := #[{ on := 2, ground := Ground.data }], guard := none }) rfl (fun K hK => ?_) ?_
            · go_simp
              refine hK.out _ _ ?hs11 (fun hS11 => ?_)
              case hs11 => ((try dsimp only); first | (go_keep; done) | (refine ⟨?_, ?_⟩ <;> (go_keep; done)) | exact ⟨(cell_far _ _ _ _ _ _ (Ne.symm nrw)).trans k4, (cell_far _ _ _ _ _ _ (Ne.symm nrw)).trans k5⟩)
              clear hK K hS10
              refine wpAnyH_ready (rs := [6]) (by kernel_rfl) (by simp) ?_
              refine AllReadyH.cons (o := { dst := some 59, op := Op.call { callee := Callee.builtin Builtin.append, args := #[Operand.tmp 56, Operand.tmp 58], argTypes := #[53, 53] }, type := 53, pos := "law.go:128", after := #[{ on := 3, ground := Ground.data }, { on := 5, ground := Ground.data }], guard := none }) rfl (fun K hK => ?_) ?_
              · (refine step_append_lies _ (by rfl) _ _ _ (by rfl) base 51 i3 _ 2 16 Try.underlying53 j1 j2 j3 j4 rfl (by omega) (.slice ad (Q a).length cap1) (Q a).length (cells2 ((Q a).map ref)) (by rfl) ((rows.alloc _).drew) ⟨w5.heap.size, 0, none⟩ 1 1 [.int .i64 (i : Int), .int .i64 (a : Int)] (by rfl) (by rfl) (World.news_of_block (cs := #[.int .i64 (i : Int), .int .i64 (a : Int)]) (t := 51) (fr := (0, 0)) (heap_alloc_new w5 _)) (by simp [Value.oneCell']) (by omega) (by unfold maxLen; omega) (by omega) (by simp; omega) (w5.heap.size + 1) (by simp) ?_; intro gg cap2 w6 hown1 hgrow hat hlt; have f1 : w6.frozen? ⟨wb, a, none⟩ = false := (by rw [hgrow.frozen_far _ (by simp; omega) (Ne.symm nvw)]; exact (frozen?_alloc_cells _ _ _ _).trans fw); have k1 : w6.cell? ⟨wb, a, none⟩ = some (.slice ad (Q a).length cap1) := (by rw [hgrow.cell_far _ (by simp; omega) (Ne.symm nvw)]; exact past cv); have k4 : w6.cell? ⟨rb, 0, none⟩ = some (.int .i64 (i : Int)) := (by rw [hgrow.cell_far _ (by simp; omega) (Ne.symm nrv)]; exact past b0); have k5 : w6.cell? ⟨rb, 1, none⟩ = some (.int .i64 (a : Int)) := (by rw [hgrow.cell_far _ (by simp; omega) (Ne.symm nrv)]; exact past b1))
                refine hK.out _ _ ?hs12 (fun hS12 => ?_)
                case hs12 => ((try dsimp only); first | (go_keep; done) | (refine ⟨?_, ?_⟩ <;> (go_keep; done)) | exact ⟨(cell_far _ _ _ _ _ _ (Ne.symm nrw)).trans k4, (cell_far _ _ _ _ _ _ (Ne.symm nrw)).trans k5⟩)
                clear hK K hS11
                refine wpAnyH_ready (rs := [7]) (by kernel_rfl) (by simp) ?_
                refine AllReadyH.cons (o := { dst := some 60, op := Op.indexAddr 67 (Operand.tmp 7) (Operand.tmp 53), type := 0, pos := "law.go:128", after := #[{ on := 0, ground := Ground.data }, { on := 0, ground := Ground.phase }, { on := 1, ground := Ground.phase }, { on := 2, ground := Ground.phase }, { on := 3, ground := Ground.phase }, { on := 4, ground := Ground.phase }, { on := 5, ground := Ground.phase }, { on := 6, ground := Ground.phase }], guard := none }) rfl (fun K hK => ?_) ?_
                · go_simp
                  refine hK.out _ _ ?hs13 (fun hS13 => ?_)
                  case hs13 => ((try dsimp only); first | (go_keep; done) | (refine ⟨?_, ?_⟩ <;> (go_keep; done)) | exact ⟨(cell_far _ _ _ _ _ _ (Ne.symm nrw)).trans k4, (cell_far _ _ _ _ _ _ (Ne.symm nrw)).trans k5⟩)
                  clear hK K hS12
                  refine wpAnyH_ready (rs := [8]) (by kernel_rfl) (by simp) ?_
                  refine AllReadyH.cons (o := { dst := none, op := Op.store 53 (Operand.tmp 60) (Operand.tmp 59), type := 0, pos := "law.go:128", after := #[{ on := 7, ground := Ground.data }, { on := 6, ground := Ground.data }, { on := 6, ground := Ground.chain }, { on := 0, ground := Ground.phase }, { on := 1, ground := Ground.phase }, { on := 2, ground := Ground.phase }, { on := 3, ground := Ground.phase }, { on := 4, ground := Ground.phase }, { on := 5, ground := Ground.phase }, { on := 6, ground := Ground.phase }], guard := none }) rfl (fun K hK => ?_) ?_
                  · go_simp
                    refine hK.out _ _ ?hs14 (fun hS14 => ?_)
                    case hs14 => ((try dsimp only); first | (go_keep; done) | (refine ⟨?_, ?_⟩ <;> (go_keep; done)) | exact ⟨(cell_far _ _ _ _ _ _ (Ne.symm nrw)).trans k4, (cell_far _ _ _ _ _ _ (Ne.symm nrw)).trans k5⟩)
                    clear hK K hS13
                    refine wpAnyH_done (by kernel_rfl) ?_ _
                    obtain ⟨hg, hnow, h5, g5, tr5, hsrt, hlen⟩ := F.out
                    obtain ⟨Vw', Z⟩ := RSt.stored L.out h5 g5 tr5 hsrt hlen a4 (by rw [hVa]; exact hgrow) hown1 (by rw [hVa]; exact hat)
                    have Z := Lib.hid Z
                    clear hg h5 g5 tr5 hsrt hlen
                    go_wp2_with fail
                    go_roundg (20 - (i + 1))
                    case measure => have := F.out.1; omega
                    case rel => exact ⟨i + 1, now1, _, _, Vw', by go_num, by omega, by omega, rfl, by omega, Z.out⟩
                  exact AllReadyH.nil
                exact AllReadyH.nil
              exact AllReadyH.nil
            exact AllReadyH.nil
          exact AllReadyH.nil

      · obtain ⟨hsrt, hlen⟩ := And.intro hR.srt hR.len
        have F0 : Fet w (wr.alloc (.cells #[.slice none 0 0, .slice none 0 0, .slice none 0 0, .slice none 0 0] 67)) x lb base wb wr.heap.size now V V Q Vw (fun k => (Q k).map ref) := by
          have q1 := hR.epo.bx
          have q2 := hR.epo.bl
          have q3 := hR.epo.bw
          have q4 := hR.wnt.lw
          refine ⟨hR.epo.alloc _, fun _ => rfl, fun k hk => ?_, hR.wnt.same ((Turn.refl _ wr).alloc _), fun k hk => ?_, hR.tr.alloc _⟩
          · rcases hk with rfl | rfl | ⟨a, ha, e⟩
            · omega
            · omega
            · exact ((hR.epo.rows a ha).lt k e).2
          · rcases hk with rfl | ⟨a, ha, e⟩
            · omega
            · exact ((hR.wnt.rows a ha).lt k e).2
        have hws : w.heap.size ≤ wr.heap.size := hR.tr.size
        have G0 : GRel w x lb base wb wr.heap.size now V Vw Q 4 (.int .i64 0) (wr.alloc (.cells #[.slice none 0 0, .slice none 0 0, .slice none 0 0, .slice none 0 0] 67)) :=
          ⟨0, V, _, Q, rfl, by omega, rfl, F0, fun k _ => by rw [if_neg (Nat.not_lt_zero k)], by
            have := wnt_new wr _ rfl _ rfl
            simpa using this⟩
        have D := Lib.hid (And.intro hsrt (And.intro hlen (And.intro hnow hws)))
        clear hR hg F0 hsrt hlen hnow
        go_wp2_with fail
        generalize wr.alloc (.cells #[.slice none 0 0, .slice none 0 0, .slice none 0 0, .slice none 0 0] 67) = wL at *
        generalize wr.heap.size = gb at *
        go_loopg [12] 4 (fun gh v12 wr => GRel w x lb base wb gb now V Vw Q gh v12 wr)
        case atStart => exact G0
        case round =>
          clear G0
          obtain ⟨j, V2, Vg, Q2, rfl, hj, hg, hF, hQ2, hG⟩ := hrel
          by_cases hj4 : j < 4
          · have e2 : Q2 j = Q j := by rw [hQ2 j hj4, if_neg (Nat.lt_irrefl j)]
            have C0 := hF.ripe L.out hj4 (by rw [e2]; have := D.out.2.1 j hj4; omega)
            rw [e2] at C0
            have C := Lib.hid C0
            have E := Lib.hid (And.intro hg (And.intro hF (And.intro hQ2 hG)))
            clear hg hF hQ2 hG C0 e2
            go_wp2_with fail
            refine C.out.mono ?_
            rintro e w6 ⟨vl, V3, rfl, ho, hF, ht⟩
            obtain ⟨hg, hF0, hQ2, hG⟩ := E.out
            have hG6 := hG.keep ht (fun k _ h1 h2 => by
              rcases h1 with rfl | ⟨a, ha, e⟩
              · omega
              · have := ((hG.rows a ha).lt k e).1
                omega)
            have cv := hG6.cv j hj4
            have fz := hG6.fz j
            have Z := hG6.put hj4 (v' := vl) (q' := told now (Q j)) (Turn.refl _ _) (own_low ho (by have := hG.bw; omega)) (fun b hb _ => by
              cases hvl : vl.ownBlock
              · exact .inl rfl
              · refine .inr (fun e => ?_)
                have q1 := ((hG.rows b hb).lt _ e.symm).2
                have q2 := (ho.lt _ hvl).1
                omega)
            have hF7 := hF.turn L.out Z.2 (fun k hk => by
              have q0 := D.out.2.2.2
              rcases hk with rfl | ⟨a, ha, e⟩
              · omega
              · have := ((hG6.rows a ha).lt k e).1
                omega)
            have H := Lib.hid (And.intro hF7 (And.intro hQ2 Z.1))
            obtain ⟨adv, capv, evl, _⟩ := own_slice ho
            subst evl
            clear hF hF0 hQ2 hG hG6 Z hF7 ho ht
            go_wp2_with fail
            go_roundg (4 - (j + 1))
            case measure => omega
            case rel =>
              obtain ⟨hF7, hQ2, hZ⟩ := H.out
              refine ⟨j + 1, V3, upd Vg j (.slice adv (told now (Q j)).length capv), _, by go_num, by omega, rfl, hF7, fun k hk => ?_, ?_⟩
              · by_cases e : k = j
                · subst e
                  rw [upd_at, if_pos (Nat.lt_succ_self _)]
                · rw [upd_off _ _ e, hQ2 k hk]
                  have : k < j + 1 ↔ k < j := by omega
                  simp [this]
              · have e3 : (upd (fun k => if k < j then told now (Q k) else []) j (told now (Q j))) = (fun k => if k < j + 1 then told now (Q k) else []) := by
                  funext k
                  by_cases e : k = j
                  · subst e
                    rw [upd_at, if_pos (Nat.lt_succ_self _)]
                  · rw [upd_off _ _ e]
                    have : k < j + 1 ↔ k < j := by omega
                    simp [this]
                rw [← e3]
                exact hZ
          · have hj44 : j = 4 := by omega
            subst hj44
            have C0 := Lib.hid (hF.adv L.out (by have := D.out.2.2.1; omega))
            have A0 : Got wr gb 0 Vg (fun k => told now (Q k)) := ⟨hG.bw, fun k _ hk => hG.cv k hk, fun k _ hk => by
              have := hG.rows k hk
              simpa [hk] using this⟩
            have hap := hG.apart
            have hvg : ∀ k b, k < 4 → (Vg k).ownBlock = some b → gb < b := fun k b hk e => ((hG.rows k hk).lt b e).1
            have E := Lib.hid (And.intro A0 (And.intro hap (And.intro hvg hQ2)))
            clear hF hG hQ2 A0 hap hvg hg hj4
            go_wp2_with fail
            refine C0.out.mono ?_
            rintro e w6 ⟨rfl, hF, t6⟩
            have C1 := Lib.hid (hF.adv L.out (by have := D.out.2.2.1; omega))
            have T6 := Lib.hid t6
            clear hF t6
            go_wp2_with fail
            refine C1.out.mono ?_
            rintro e w7 ⟨rfl, hF, t7⟩
            have T7 := Lib.hid (T6.out.trans t7)
            have A1 : ARel w x lb base wb gb now V Vw Vg Q 4 (.int .i64 0) w7 :=
              ⟨0, _, _, rfl, by omega, rfl, hF, fun k _ hk => by rw [E.out.2.2.2 k hk, if_pos hk], E.out.1.keep T7.out (Nat.lt_irrefl gb) (fun k b _ hk e h => by have := E.out.2.2.1 k b hk e; omega)⟩
            clear hF t7
            go_wp2_with fail
            go_loopg [15] 4 (fun gh v15 wr => ARel w x lb base wb gb now V Vw Vg Q gh v15 wr)
            case atStart => exact A1
            case round =>
              clear A1 C0 C1
              obtain ⟨k, V3, Q3, rfl, hk, hg, hF, hQ3, hG⟩ := hrel
              by_cases hk4 : k < 4
              · have eQ : Q3 k = kept now (Q k) := hQ3 k (Nat.le_refl _) hk4
                have TW := ripe_twice (D.out.1 k hk4)
                have hle : (Q k).length ≤ 1000000 := by have := D.out.2.1 k hk4; omega
                have hle2 : (told now (Q k)).length + (told (now + 1 + 1) (Q3 k)).length ≤ 1000000 := by
                  have e := congrArg List.length TW.1
                  rw [List.length_append, List.length_map] at e
                  rw [eQ, e]
                  exact hle
                have CR := Lib.hid ((hF.same L.out ((Turn.refl _ wr).drewd)).ripe L.out hk4 (by rw [eQ]; exact Nat.le_trans (List.length_filter_le _ _) hle))
                have rowk := hG.rows k (Nat.le_refl _) hk4
                have cvk := hG.cv k (Nat.le_refl _) hk4
                have ngb : (Vg k).ownBlock ≠ some gb := fun e => by have := E.out.2.2.1 k gb hk4 e; omega
                have nlow : ∀ b, (Vg k).ownBlock = some b → gb < b := fun b e => E.out.2.2.1 k b hk4 e
                have hG' := hG.same ((Turn.refl _ wr).drewd)
                have M := Lib.hid (And.intro hg (And.intro hF (And.intro hQ3 (And.intro hG' (And.intro eQ (And.intro TW hle))))))
                have hgb : gb + 1 ≤ wr.heap.size := hG.bw
                clear hg hF hQ3 hG hG' eQ TW hle
                generalize hVk : Vg k = vk at rowk cvk ngb nlow
                obtain ⟨ag, cg, evg, _⟩ := own_slice rowk
                subst evg
                have k4 : (k : Int) < 4 := by omega
                have rowd : wr.drew.ownsRow (gb + 1) 51 2 (.slice ag (told now (Q k)).length cg) (told now (Q k)).length (cells2 (told now (Q k))) := own_keep rowk (fun _ _ => rfl)
                have cvd : wr.drew.cell? ⟨gb, k, none⟩ = some (.slice ag (told now (Q k)).length cg) := cvk
                go_wp2_with fail
                refine wp_region_held_drew (S := (fun w' => w'.cell? ⟨gb, k, none⟩ = some (.slice ag (told now (Q k)).length cg))) (by kernel_rfl) ?hs0 (fun hS0 => ?_)
                case hs0 => ((try dsimp only); first | (go_keep; done) | assumption)
                refine wpAnyH_take (i := 0) (oi := { dst := some 78, op := Op.move (Operand.tmp 15), type := 3, pos := "law.go:137", after := #[], guard := none }) (v := ?_) rfl (by kernel_rfl) (by kernel_rfl) (by kernel_rfl) (fun _ _ _ h => h) (Or.inl ⟨by rfl, ?hy1⟩) hS0 ?_
                case hy1 => (intro w hSw; (try dsimp only at hSw); go_simp; try with_reducible rfl)
                try simp only [Act.put, List.setIfInBounds_toArray, List.set_cons_zero, List.set_cons_succ]
                refine wpAnyH_take (i := 1) (oi := { dst := some 79, op := Op.indexAddr 67 (Operand.tmp 11) (Operand.tmp 78), type := 0, pos := "law.go:137", after := #[{ on := 0, ground := Ground.data }], guard := none }) (v := ?_) rfl (by kernel_rfl) (by kernel_rfl) (by kernel_rfl) (fun _ _ _ h => h) (Or.inl ⟨by rfl, ?hy2⟩) hS0 ?_
                case hy2 => (intro w hSw; (try dsimp only at hSw); go_simp; try with_reducible rfl)
                try simp only [Act.put, List.setIfInBounds_toArray, List.set_cons_zero, List.set_cons_succ]
                refine wpAnyH_take (i := 2) (oi := { dst := some 80, op := Op.load 53 (Operand.tmp 79), type := 53, pos := "law.go:137", after := #[{ on := 1, ground := Ground.data }], guard := none }) (v := ?_) rfl (by kernel_rfl) (by kernel_rfl) (by kernel_rfl) (fun _ _ _ h => h) (Or.inl ⟨by rfl, ?hy3⟩) hS0 ?_
                case hy3 => (intro w hSw; (try dsimp only at hSw); go_simp; try with_reducible rfl)
                try simp only [Act.put, List.setIfInBounds_toArray, List.set_cons_zero, List.set_cons_succ]
                refine wpAnyH_take (i := 3) (oi := { dst := some 81, op := Op.move (Operand.tmp 6), type := 42, pos := "law.go:137", after := #[], guard := none }) (v := ?_) rfl (by kernel_rfl) (by kernel_rfl) (by kernel_rfl) (fun _ _ _ h => h) (Or.inl ⟨by rfl, ?hy4⟩) hS0 ?_
                case hy4 => (intro w hSw; (try dsimp only at hSw); go_simp; try with_reducible rfl)
                try simp only [Act.put, List.setIfInBounds_toArray, List.set_cons_zero, List.set_cons_succ]
                refine wpAnyH_take (i := 4) (oi := { dst := some 82, op := Op.move (Operand.tmp 15), type := 3, pos := "law.go:137", after := #[], guard := none }) (v := ?_) rfl (by kernel_rfl) (by kernel_rfl) (by kernel_rfl) (fun _ _ _ h => h) (Or.inl ⟨by rfl, ?hy5⟩) hS0 ?_
                case hy5 => (intro w hSw; (try dsimp only at hSw); go_simp; try with_reducible rfl)
                try simp only [Act.put, List.setIfInBounds_toArray, List.set_cons_zero, List.set_cons_succ]
                refine wpAnyH_ready (rs := [5]) (by kernel_rfl) (by simp) ?_
                refine AllReadyH.cons (o := { dst := some 83, op := Op.call { callee := Callee.value (Operand.func 40), args := #[Operand.tmp 81, Operand.tmp 82], argTypes := #[42, 3] }, type := 53, pos := "law.go:137", after := #[{ on := 3, ground := Ground.data }, { on := 4, ground := Ground.data }], guard := none }) rfl (fun K hK => ?_) ?_
                · go_simp; with_reducible refine CR.out.mono ?_; rintro e w6 ⟨vl, V4, rfl, ho, hF6, ht6⟩; have s0 := ht6.cell (Nat.lt_irrefl gb) cvd; have row6 := own_turn rowd ht6 (fun b e h => by have := nlow b e; omega); obtain ⟨av, cav, evl, _⟩ := own_slice ho; subst evl; go_simp
                  refine hK.out _ _ ?hs6 (fun hS6 => ?_)
                  case hs6 => ((try dsimp only); first | (go_keep; done) | assumption)
                  clear hK K hS0
                  refine wpAnyH_ready (rs := [6]) (by kernel_rfl) (by simp) ?_
                  refine AllReadyH.cons (o := { dst := some 84, op := Op.call { callee := Callee.builtin Builtin.append, args := #[Operand.tmp 80, Operand.tmp 83], argTypes := #[53, 53] }, type := 53, pos := "law.go:137", after := #[{ on := 2, ground := Ground.data }, { on := 5, ground := Ground.data }, { on := 5, ground := Ground.chain }], guard := none }) rfl (fun K hK => ?_) ?_
                  · obtain ⟨v7, w7, hr7, ho7, hg7⟩ := append_refs row6 ho (Nat.le_trans hgb ht6.size) hle2; have t7 : Turn (fun b => (Value.slice ag (told now (Q k)).length cg).ownBlock = some b) w6 w7 := (Turn.refl _ w6).grown hg7 (fun b hb => .inl hb); have s1 := t7.cell ngb s0; have ho7 : w7.ownsRow (gb + 1) 51 2 v7 (Q k).length (cells2 ((Q k).map ref)) := (by rw [M.out.2.2.2.2.1, M.out.2.2.2.2.2.1.1, List.length_map] at ho7; exact ho7); obtain ⟨a7, c7, e7, _⟩ := own_slice ho7; subst e7; refine step_append_run (by rfl) _ _ _ (by rfl) (by rfl) (by rfl) hr7 ?_
                    refine hK.out _ _ ?hs7 (fun hS7 => ?_)
                    case hs7 => ((try dsimp only); first | (go_keep; done) | assumption)
                    clear hK K hS6
                    refine wpAnyH_ready (rs := [7]) (by kernel_rfl) (by simp) ?_
                    refine AllReadyH.cons (o := { dst := some 16, op := Op.assign (Operand.tmp 84), type := 53, pos := "law.go:137", after := #[{ on := 6, ground := Ground.data }, { on := 6, ground := Ground.chain }, { on := 0, ground := Ground.phase }, { on := 1, ground := Ground.phase }, { on := 2, ground := Ground.phase }, { on := 3, ground := Ground.phase }, { on := 4, ground := Ground.phase }, { on := 5, ground := Ground.phase }, { on := 6, ground := Ground.phase }], guard := none }) rfl (fun K hK => ?_) ?_
                    · go_simp
                      refine hK.out _ _ ?hs8 (fun hS8 => ?_)
                      case hs8 => ((try dsimp only); first | (go_keep; done) | assumption)
                      clear hK K hS7
                      refine wpAnyH_done (by kernel_rfl) ?_ _
                      obtain ⟨hg, hF, hQ3, hG', eQ, TW, hle⟩ := M.out
                      have hF7 := hF6.turn L.out t7 (fun b hb => by have := nlow b hb; have := D.out.2.2.2; omega)
                      have hG7 : Got w7 gb (k + 1) Vg (fun k => told now (Q k)) := by
                        have g6 := hG'.keep ht6 (Nat.lt_irrefl gb) (fun q b hq hq4 e h => by have := E.out.2.2.1 q b hq4 e; omega)
                        refine Got.keep (w := w6) ⟨g6.bw, fun q hq hq4 => g6.cv q (by omega) hq4, fun q hq hq4 => g6.rows q (by omega) hq4⟩ t7 ngb (fun q b hq hq4 e h => ?_)
                        rcases E.out.2.1 q k hq4 hk4 (by omega) with q1 | q1
                        · rw [e] at q1
                          cases q1
                        · exact q1 (by rw [e, hVk]; exact h.symm)
                      have row8 : w7.ownsRow base 51 2 (Vw k) (Q k).length (cells2 ((Q k).map ref)) := by have q := hF7.wnt.rows k hk4; rw [List.length_map] at q; exact q
                      have cv8 := hF7.wnt.cv k hk4
                      have C8 := same_yes ho7 row8 (List.length_map _) hle
                      generalize Vw k = vw at row8 cv8 C8
                      obtain ⟨aw, cw, ew, _⟩ := own_slice row8
                      subst ew
                      have C8 := Lib.hid C8
                      have U := Lib.hid (And.intro hF7 hG7)
                      clear hF7 hG7 row8 ho7 hF6 row6 s0 s1 ho ht6 t7 hg7 hr7 hg hF hQ3 hG' hle eQ
                      go_wp2_with fail
                      clear cv8
                      with_reducible refine C8.out.mono ?_
                      rintro e w8 ⟨rfl, t8⟩
                      have hF8 := U.out.1.same L.out t8
                      have hG8 := U.out.2.same t8
                      have eZ : upd Q3 k (kept (now + 1 + 1) (Q3 k)) k = [] := by
                        rw [upd_at, M.out.2.2.2.2.1]
                        exact TW.2
                      have C9 := hF8.epo.limbo_is hk4
                      have C10 := hF8.ripe L.out hk4 (by rw [eZ]; exact Nat.zero_le _)
                      rw [eZ] at C9 C10
                      have C9 := Lib.hid C9
                      have C10 := Lib.hid C10
                      have U8 := Lib.hid hG8
                      clear hF8 hG8 eZ t8 C8 TW
                      go_wp2_with fail
                      refine C9.out.mono ?_
                      rintro e w9 ⟨rfl, rfl⟩
                      go_wp2_with fail
                      refine C10.out.mono ?_
                      rintro e w9 ⟨vl9, V9, rfl, ho9, hF9, t9⟩
                      have ho9 : w9.ownsRow w8.heap.size 51 2 vl9 0 [] := ho9
                      obtain ⟨a9, c9, e9, _⟩ := own_slice ho9
                      subst e9
                      have U9 := Lib.hid (And.intro hF9 (U8.out.keep t9 (Nat.lt_irrefl gb) (fun q b hq hq4 e h => by have := E.out.2.2.1 q b hq4 e; omega)))
                      clear hF9 ho9 t9
                      go_wp2_with fail
                      go_roundg (4 - (k + 1))
                      case measure => have := M.out.1; omega
                      case rel => exact ⟨k + 1, V9, _, by go_num, by omega, rfl, U9.out.1, fun q hq hq4 => by rw [upd_off _ _ (by omega), upd_off _ _ (by omega)]; exact M.out.2.2.1 q (by omega) hq4, U9.out.2⟩
                    exact AllReadyH.nil
                  exact AllReadyH.nil
                exact AllReadyH.nil
              · have X := Lib.hid hF.tr
                clear hF hQ3 hG hg
                go_wp2
                go_ret
                exact ⟨rfl, X.out.below (fun k hk => ⟨hk, fun e => by unfold From at e; omega⟩)⟩
    · obtain ⟨hsrt, hlen⟩ := And.intro hR.srt hR.len
      have F0 : Fet w (wr.alloc (.cells #[.slice none 0 0, .slice none 0 0, .slice none 0 0, .slice none 0 0] 67)) x lb base wb wr.heap.size now V V Q Vw (fun k => (Q k).map ref) := by
        have q1 := hR.epo.bx
        have q2 := hR.epo.bl
        have q3 := hR.epo.bw
        have q4 := hR.wnt.lw
        refine ⟨hR.epo.alloc _, fun _ => rfl, fun k hk => ?_, hR.wnt.same ((Turn.refl _ wr).alloc _), fun k hk => ?_, hR.tr.alloc _⟩
        · rcases hk with rfl | rfl | ⟨a, ha, e⟩
          · omega
          · omega
          · exact ((hR.epo.rows a ha).lt k e).2
        · rcases hk with rfl | ⟨a, ha, e⟩
          · omega
          · exact ((hR.wnt.rows a ha).lt k e).2
      have hws : w.heap.size ≤ wr.heap.size := hR.tr.size
      have G0 : GRel w x lb base wb wr.heap.size now V Vw Q 4 (.int .i64 0) (wr.alloc (.cells #[.slice none 0 0, .slice none 0 0, .slice none 0 0, .slice none 0 0] 67)) :=
        ⟨0, V, _, Q, rfl, by omega, rfl, F0, fun k _ => by rw [if_neg (Nat.not_lt_zero k)], by
          have := wnt_new wr _ rfl _ rfl
          simpa using this⟩
      have D := Lib.hid (And.intro hsrt (And.intro hlen (And.intro hnow hws)))
      clear hR hg F0 hsrt hlen hnow
      go_wp2_with fail
      generalize wr.alloc (.cells #[.slice none 0 0, .slice none 0 0, .slice none 0 0, .slice none 0 0] 67) = wL at *
      generalize wr.heap.size = gb at *
      go_loopg [12] 4 (fun gh v12 wr => GRel w x lb base wb gb now V Vw Q gh v12 wr)
      case atStart => exact G0
      case round =>
        clear G0
        obtain ⟨j, V2, Vg, Q2, rfl, hj, hg, hF, hQ2, hG⟩ := hrel
        by_cases hj4 : j < 4
        · have e2 : Q2 j = Q j := by rw [hQ2 j hj4, if_neg (Nat.lt_irrefl j)]
          have C0 := hF.ripe L.out hj4 (by rw [e2]; have := D.out.2.1 j hj4; omega)
          rw [e2] at C0
          have C := Lib.hid C0
          have E := Lib.hid (And.intro hg (And.intro hF (And.intro hQ2 hG)))
          clear hg hF hQ2 hG C0 e2
          go_wp2_with fail
          refine C.out.mono ?_
          rintro e w6 ⟨vl, V3, rfl, ho, hF, ht⟩
          obtain ⟨hg, hF0, hQ2, hG⟩ := E.out
          have hG6 := hG.keep ht (fun k _ h1 h2 => by
            rcases h1 with rfl | ⟨a, ha, e⟩
            · omega
            · have := ((hG.rows a ha).lt k e).1
              omega)
          have cv := hG6.cv j hj4
          have fz := hG6.fz j
          have Z := hG6.put hj4 (v' := vl) (q' := told now (Q j)) (Turn.refl _ _) (own_low ho (by have := hG.bw; omega)) (fun b hb _ => by
            cases hvl : vl.ownBlock
            · exact .inl rfl
            · refine .inr (fun e => ?_)
              have q1 := ((hG.rows b hb).lt _ e.symm).2
              have q2 := (ho.lt _ hvl).1
              omega)
          have hF7 := hF.turn L.out Z.2 (fun k hk => by
            have q0 := D.out.2.2.2
            rcases hk with rfl | ⟨a, ha, e⟩
            · omega
            · have := ((hG6.rows a ha).lt k e).1
              omega)
          have H := Lib.hid (And.intro hF7 (And.intro hQ2 Z.1))
          obtain ⟨adv, capv, evl, _⟩ := own_slice ho
          subst evl
          clear hF hF0 hQ2 hG hG6 Z hF7 ho ht
          go_wp2_with fail
          go_roundg (4 - (j + 1))
          case measure => omega
          case rel =>
            obtain ⟨hF7, hQ2, hZ⟩ := H.out
            refine ⟨j + 1, V3, upd Vg j (.slice adv (told now (Q j)).length capv), _, by go_num, by omega, rfl, hF7, fun k hk => ?_, ?_⟩
            · by_cases e : k = j
              · subst e
                rw [upd_at, if_pos (Nat.lt_succ_self _)]
              · rw [upd_off _ _ e, hQ2 k hk]
                have : k < j + 1 ↔ k < j := by omega
                simp [this]
            · have e3 : (upd (fun k => if k < j then told now (Q k) else []) j (told now (Q j))) = (fun k => if k < j + 1 then told now (Q k) else []) := by
                funext k
                by_cases e : k = j
                · subst e
                  rw [upd_at, if_pos (Nat.lt_succ_self _)]
                · rw [upd_off _ _ e]
                  have : k < j + 1 ↔ k < j := by omega
                  simp [this]
              rw [← e3]
              exact hZ
        · have hj44 : j = 4 := by omega
          subst hj44
          have C0 := Lib.hid (hF.adv L.out (by have := D.out.2.2.1; omega))
          have A0 : Got wr gb 0 Vg (fun k => told now (Q k)) := ⟨hG.bw, fun k _ hk => hG.cv k hk, fun k _ hk => by
            have := hG.rows k hk
            simpa [hk] using this⟩
          have hap := hG.apart
          have hvg : ∀ k b, k < 4 → (Vg k).ownBlock = some b → gb < b := fun k b hk e => ((hG.rows k hk).lt b e).1
          have E := Lib.hid (And.intro A0 (And.intro hap (And.intro hvg hQ2)))
          clear hF hG hQ2 A0 hap hvg hg hj4
          go_wp2_with fail
          refine C0.out.mono ?_
          rintro e w6 ⟨rfl, hF, t6⟩
          have C1 := Lib.hid (hF.adv L.out (by have := D.out.2.2.1; omega))
          have T6 := Lib.hid t6
          clear hF t6
          go_wp2_with fail
          refine C1.out.mono ?_
          rintro e w7 ⟨rfl, hF, t7⟩
          have T7 := Lib.hid (T6.out.trans t7)
          have A1 : ARel w x lb base wb gb now V Vw Vg Q 4 (.int .i64 0) w7 :=
            ⟨0, _, _, rfl, by omega, rfl, hF, fun k _ hk => by rw [E.out.2.2.2 k hk, if_pos hk], E.out.1.keep T7.out (Nat.lt_irrefl gb) (fun k b _ hk e h => by have := E.out.2.2.1 k b hk e; omega)⟩
          clear hF t7
          go_wp2_with fail
          go_loopg [15] 4 (fun gh v15 wr => ARel w x lb base wb gb now V Vw Vg Q gh v15 wr)
          case atStart => exact A1
          case round =>
            clear A1 C0 C1
            obtain ⟨k, V3, Q3, rfl, hk, hg, hF, hQ3, hG⟩ := hrel
            by_cases hk4 : k < 4
            · have eQ : Q3 k = kept now (Q k) := hQ3 k (Nat.le_refl _) hk4
              have TW := ripe_twice (D.out.1 k hk4)
              have hle : (Q k).length ≤ 1000000 := by have := D.out.2.1 k hk4; omega
              have hle2 : (told now (Q k)).length + (told (now + 1 + 1) (Q3 k)).length ≤ 1000000 := by
                have e := congrArg List.length TW.1
                rw [List.length_append, List.length_map] at e
                rw [eQ, e]
                exact hle
              have CR := Lib.hid ((hF.same L.out ((Turn.refl _ wr).drewd)).ripe L.out hk4 (by rw [eQ]; exact Nat.le_trans (List.length_filter_le _ _) hle))
              have rowk := hG.rows k (Nat.le_refl _) hk4
              have cvk := hG.cv k (Nat.le_refl _) hk4
              have ngb : (Vg k).ownBlock ≠ some gb := fun e => by have := E.out.2.2.1 k gb hk4 e; omega
              have nlow : ∀ b, (Vg k).ownBlock = some b → gb < b := fun b e => E.out.2.2.1 k b hk4 e
              have hG' := hG.same ((Turn.refl _ wr).drewd)
              have M := Lib.hid (And.intro hg (And.intro hF (And.intro hQ3 (And.intro hG' (And.intro eQ (And.intro TW hle))))))
              have hgb : gb + 1 ≤ wr.heap.size := hG.bw
              clear hg hF hQ3 hG hG' eQ TW hle
              generalize hVk : Vg k = vk at rowk cvk ngb nlow
              obtain ⟨ag, cg, evg, _⟩ := own_slice rowk
              subst evg
              have k4 : (k : Int) < 4 := by omega
              have rowd : wr.drew.ownsRow (gb + 1) 51 2 (.slice ag (told now (Q k)).length cg) (told now (Q k)).length (cells2 (told now (Q k))) := own_keep rowk (fun _ _ => rfl)
              have cvd : wr.drew.cell? ⟨gb, k, none⟩ = some (.slice ag (told now (Q k)).length cg) := cvk
              go_wp2_with fail
              refine wp_region_held_drew (S := (fun w' => w'.cell? ⟨gb, k, none⟩ = some (.slice ag (told now (Q k)).length cg))) (by kernel_rfl) ?hs0 (fun hS0 => ?_)
              case hs0 => ((try dsimp only); first | (go_keep; done) | assumption)
              refine wpAnyH_take (i := 0) (oi := { dst := some 78, op := Op.move (Operand.tmp 15), type := 3, pos := "law.go:137", after := #[], guard := none }) (v := ?_) rfl (by kernel_rfl) (by kernel_rfl) (by kernel_rfl) (fun _ _ _ h => h) (Or.inl ⟨by rfl, ?hy1⟩) hS0 ?_
              case hy1 => (intro w hSw; (try dsimp only at hSw); go_simp; try with_reducible rfl)
              try simp only [Act.put, List.setIfInBounds_toArray, List.set_cons_zero, List.set_cons_succ]
              refine wpAnyH_take (i := 1) (oi := { dst := some 79, op := Op.indexAddr 67 (Operand.tmp 11) (Operand.tmp 78), type := 0, pos := "law.go:137", after := #[{ on := 0, ground := Ground.data }], guard := none }) (v := ?_) rfl (by kernel_rfl) (by kernel_rfl) (by kernel_rfl) (fun _ _ _ h => h) (Or.inl ⟨by rfl, ?hy2⟩) hS0 ?_
              case hy2 => (intro w hSw; (try dsimp only at hSw); go_simp; try with_reducible rfl)
              try simp only [Act.put, List.setIfInBounds_toArray, List.set_cons_zero, List.set_cons_succ]
              refine wpAnyH_take (i := 2) (oi := { dst := some 80, op := Op.load 53 (Operand.tmp 79), type := 53, pos := "law.go:137", after := #[{ on := 1, ground := Ground.data }], guard := none }) (v := ?_) rfl (by kernel_rfl) (by kernel_rfl) (by kernel_rfl) (fun _ _ _ h => h) (Or.inl ⟨by rfl, ?hy3⟩) hS0 ?_
              case hy3 => (intro w hSw; (try dsimp only at hSw); go_simp; try with_reducible rfl)
              try simp only [Act.put, List.setIfInBounds_toArray, List.set_cons_zero, List.set_cons_succ]
              refine wpAnyH_take (i := 3) (oi := { dst := some 81, op := Op.move (Operand.tmp 6), type := 42, pos := "law.go:137", after := #[], guard := none }) (v := ?_) rfl (by kernel_rfl) (by kernel_rfl) (by kernel_rfl) (fun _ _ _ h => h) (Or.inl ⟨by rfl, ?hy4⟩) hS0 ?_
              case hy4 => (intro w hSw; (try dsimp only at hSw); go_simp; try with_reducible rfl)
              try simp only [Act.put, List.setIfInBounds_toArray, List.set_cons_zero, List.set_cons_succ]
              refine wpAnyH_take (i := 4) (oi := { dst := some 82, op := Op.move (Operand.tmp 15), type := 3, pos := "law.go:137", after := #[], guard := none }) (v := ?_) rfl (by kernel_rfl) (by kernel_rfl) (by kernel_rfl) (fun _ _ _ h => h) (Or.inl ⟨by rfl, ?hy5⟩) hS0 ?_
              case hy5 => (intro w hSw; (try dsimp only at hSw); go_simp; try with_reducible rfl)
              try simp only [Act.put, List.setIfInBounds_toArray, List.set_cons_zero, List.set_cons_succ]
              refine wpAnyH_ready (rs := [5]) (by kernel_rfl) (by simp) ?_
              refine AllReadyH.cons (o := { dst := some 83, op := Op.call { callee := Callee.value (Operand.func 40), args := #[Operand.tmp 81, Operand.tmp 82], argTypes := #[42, 3] }, type := 53, pos := "law.go:137", after := #[{ on := 3, ground := Ground.data }, { on := 4, ground := Ground.data }], guard := none }) rfl (fun K hK => ?_) ?_
              · go_simp; with_reducible refine CR.out.mono ?_; rintro e w6 ⟨vl, V4, rfl, ho, hF6, ht6⟩; have s0 := ht6.cell (Nat.lt_irrefl gb) cvd; have row6 := own_turn rowd ht6 (fun b e h => by have := nlow b e; omega); obtain ⟨av, cav, evl, _⟩ := own_slice ho; subst evl; go_simp
                refine hK.out _ _ ?hs6 (fun hS6 => ?_)
                case hs6 => ((try dsimp only); first | (go_keep; done) | assumption)
                clear hK K hS0
                refine wpAnyH_ready (rs := [6]) (by kernel_rfl) (by simp) ?_
                refine AllReadyH.cons (o := { dst := some 84, op := Op.call { callee := Callee.builtin Builtin.append, args := #[Operand.tmp 80, Operand.tmp 83], argTypes := #[53, 53] }, type := 53, pos := "law.go:137", after := #[{ on := 2, ground := Ground.data }, { on := 5, ground := Ground.data }, { on := 5, ground := Ground.chain }], guard := none }) rfl (fun K hK => ?_) ?_
                · obtain ⟨v7, w7, hr7, ho7, hg7⟩ := append_refs row6 ho (Nat.le_trans hgb ht6.size) hle2; have t7 : Turn (fun b => (Value.slice ag (told now (Q k)).length cg).ownBlock = some b) w6 w7 := (Turn.refl _ w6).grown hg7 (fun b hb => .inl hb); have s1 := t7.cell ngb s0; have ho7 : w7.ownsRow (gb + 1) 51 2 v7 (Q k).length (cells2 ((Q k).map ref)) := (by rw [M.out.2.2.2.2.1, M.out.2.2.2.2.2.1.1, List.length_map] at ho7; exact ho7); obtain ⟨a7, c7, e7, _⟩ := own_slice ho7; subst e7; refine step_append_run (by rfl) _ _ _ (by rfl) (by rfl) (by rfl) hr7 ?_
                  refine hK.out _ _ ?hs7 (fun hS7 => ?_)
                  case hs7 => ((try dsimp only); first | (go_keep; done) | assumption)
                  clear hK K hS6
                  refine wpAnyH_ready (rs := [7]) (by kernel_rfl) (by simp) ?_
                  refine AllReadyH.cons (o := { dst := some 16, op := Op.assign (Operand.tmp 84), type := 53, pos := "law.go:137", after := #[{ on := 6, ground := Ground.data }, { on := 6, ground := Ground.chain }, { on := 0, ground := Ground.phase }, { on := 1, ground := Ground.phase }, { on := 2, ground := Ground.phase }, { on := 3, ground := Ground.phase }, { on := 4, ground := Ground.phase }, { on := 5, ground := Ground.phase }, { on := 6, ground := Ground.phase }], guard := none }) rfl (fun K hK => ?_) ?_
                  · go_simp
                    refine hK.out _ _ ?hs8 (fun hS8 => ?_)
                    case hs8 => ((try dsimp only); first | (go_keep; done) | assumption)
                    clear hK K hS7
                    refine wpAnyH_done (by kernel_rfl) ?_ _
                    obtain ⟨hg, hF, hQ3, hG', eQ, TW, hle⟩ := M.out
                    have hF7 := hF6.turn L.out t7 (fun b hb => by have := nlow b hb; have := D.out.2.2.2; omega)
                    have hG7 : Got w7 gb (k + 1) Vg (fun k => told now (Q k)) := by
                      have g6 := hG'.keep ht6 (Nat.lt_irrefl gb) (fun q b hq hq4 e h => by have := E.out.2.2.1 q b hq4 e; omega)
                      refine Got.keep (w := w6) ⟨g6.bw, fun q hq hq4 => g6.cv q (by omega) hq4, fun q hq hq4 => g6.rows q (by omega) hq4⟩ t7 ngb (fun q b hq hq4 e h => ?_)
                      rcases E.out.2.1 q k hq4 hk4 (by omega) with q1 | q1
                      · rw [e] at q1
                        cases q1
                      · exact q1 (by rw [e, hVk]; exact h.symm)
                    have row8 : w7.ownsRow base 51 2 (Vw k) (Q k).length (cells2 ((Q k).map ref)) := by have q := hF7.wnt.rows k hk4; rw [List.length_map] at q; exact q
                    have cv8 := hF7.wnt.cv k hk4
                    have C8 := same_yes ho7 row8 (List.length_map _) hle
                    generalize Vw k = vw at row8 cv8 C8
                    obtain ⟨aw, cw, ew, _⟩ := own_slice row8
                    subst ew
                    have C8 := Lib.hid C8
                    have U := Lib.hid (And.intro hF7 hG7)
                    clear hF7 hG7 row8 ho7 hF6 row6 s0 s1 ho ht6 t7 hg7 hr7 hg hF hQ3 hG' hle eQ
                    go_wp2_with fail
                    clear cv8
                    with_reducible refine C8.out.mono ?_
                    rintro e w8 ⟨rfl, t8⟩
                    have hF8 := U.out.1.same L.out t8
                    have hG8 := U.out.2.same t8
                    have eZ : upd Q3 k (kept (now + 1 + 1) (Q3 k)) k = [] := by
                      rw [upd_at, M.out.2.2.2.2.1]
                      exact TW.2
                    have C9 := hF8.epo.limbo_is hk4
                    have C10 := hF8.ripe L.out hk4 (by rw [eZ]; exact Nat.zero_le _)
                    rw [eZ] at C9 C10
                    have C9 := Lib.hid C9
                    have C10 := Lib.hid C10
                    have U8 := Lib.hid hG8
                    clear hF8 hG8 eZ t8 C8 TW
                    go_wp2_with fail
                    refine C9.out.mono ?_
                    rintro e w9 ⟨rfl, rfl⟩
                    go_wp2_with fail
                    refine C10.out.mono ?_
                    rintro e w9 ⟨vl9, V9, rfl, ho9, hF9, t9⟩
                    have ho9 : w9.ownsRow w8.heap.size 51 2 vl9 0 [] := ho9
                    obtain ⟨a9, c9, e9, _⟩ := own_slice ho9
                    subst e9
                    have U9 := Lib.hid (And.intro hF9 (U8.out.keep t9 (Nat.lt_irrefl gb) (fun q b hq hq4 e h => by have := E.out.2.2.1 q b hq4 e; omega)))
                    clear hF9 ho9 t9
                    go_wp2_with fail
                    go_roundg (4 - (k + 1))
                    case measure => have := M.out.1; omega
                    case rel => exact ⟨k + 1, V9, _, by go_num, by omega, rfl, U9.out.1, fun q hq hq4 => by rw [upd_off _ _ (by omega), upd_off _ _ (by omega)]; exact M.out.2.2.1 q (by omega) hq4, U9.out.2⟩
                  exact AllReadyH.nil
                exact AllReadyH.nil
              exact AllReadyH.nil
            · have X := Lib.hid hF.tr
              clear hF hQ3 hG hg
              go_wp2
              go_ret
              exact ⟨rfl, X.out.below (fun k hk => ⟨hk, fun e => by unfold From at e; omega⟩)⟩
end Go.Proofs.Ytibmimdlgbhdnaa
