/-
  The walk of EpochEach: of each actor what it retired comes out once, in order, when it is ripe.
-/
import Derived.Test.YtibmimdlgbhdnaaEachSt
namespace Go.Proofs.Ytibmimdlgbhdnaa
open Go.ChangeShapes Go.WideShapes Go.ChangeAt Go.RowKit
set_option linter.unusedVariables false

/-- Acts lie in a row: a kind, an actor, a number. -/
def Acts (w : World) (b off len : Nat) (K A N : Nat → Int) : Prop := ∀ i, i < len → w.cell? ⟨b, off + i * 3, none⟩ = some (.int .i64 (K i)) ∧ w.cell? ⟨b, off + i * 3 + 1, none⟩ = some (.int .i64 (A i)) ∧ w.cell? ⟨b, off + i * 3 + 2, none⟩ = some (.int .i64 (N i))

theorem arr_new (w : World) (ob tb nb base : Nat) (h1 : ob = w.heap.size) (h2 : tb = ob + 1) (h3 : nb = tb + 1) (h4 : base = nb + 1) {c1 c2 c3 : Array Value} (e1 : ∀ k, k < 5 → c1[k]? = some (.slice none 0 0)) (e2 : ∀ k, k < 60 → c2[k]? = some (.int .i64 0)) (e3 : ∀ k, k < 5 → c3[k]? = some (.int .i64 0)) (t1 t2 t3 : TypeId) :
    Arr (((w.alloc (.cells c1 t1)).alloc (.cells c2 t2)).alloc (.cells c3 t3)) ob tb nb base (fun _ => .slice none 0 0) (fun _ => []) (fun _ => 0) (fun _ => 0) := by
  subst h1 h2 h3 h4
  refine ⟨by omega, by omega, by omega, by omega, by omega, by omega, by simp, fun k hk => ?_, fun k hk => ?_, fun k hk => ?_, fun i => ?_, fun i => ?_, fun i => ?_, fun k _ => World.ownsRow_nil _ _ _ _, fun a b _ _ _ => .inl rfl⟩
  · exact past (past ((World.cell?_alloc_new w c1 t1 k).trans (e1 k hk)))
  · have := World.cell?_alloc_new (w.alloc (.cells c1 t1)) c2 t2 k
    rw [show (w.alloc (.cells c1 t1)).heap.size = w.heap.size + 1 from by simp] at this
    exact past (this.trans (e2 k hk))
  · have := World.cell?_alloc_new ((w.alloc (.cells c1 t1)).alloc (.cells c2 t2)) c3 t3 k
    rw [show ((w.alloc (.cells c1 t1)).alloc (.cells c2 t2)).heap.size = w.heap.size + 1 + 1 from by simp] at this
    exact this.trans (e3 k hk)
  · rw [frozen?_alloc_cells, frozen?_alloc_cells, frozen?_alloc_cells]
    exact fz _ (Nat.le_refl _)
  · rw [frozen?_alloc_cells, frozen?_alloc_cells, frozen?_alloc_cells]
    exact fz _ (by omega)
  · rw [frozen?_alloc_cells, frozen?_alloc_cells, frozen?_alloc_cells]
    exact fz _ (by omega)
def ERel (w : World) (x lb n base ob tb nb len : Nat) (gh : Nat) (v : Value) (wr : World) : Prop :=
  ∃ (i : Nat) (now : Int) (P : Nat → Int) (V : Nat → Value) (Q : Nat → List (Int × Int × Int)) (Vo : Nat → Value) (O : Nat → List Nat) (A : Nat → Int) (N : Nat → Nat), v = .int .i64 (i : Int) ∧ i ≤ len ∧ i ≤ 60 ∧ gh = 60 - i ∧ now ≤ (i : Int) ∧ ESt w wr x lb n base ob tb nb now P V Q Vo O A N i

theorem own2_atN {w : World} {b k N : Nat} {v : Value} {l : List (Int × Int)} {q : Int × Int} (h : w.ownsRow b 51 2 v N (cells2 l)) (hl : l.length = N) (hk : l[k]? = some q) :
    ∃ g cap, v = .slice (some ⟨g, 0, none⟩) N cap ∧ w.cell? ⟨g, k * 2, none⟩ = some (.int .i64 q.1) ∧ w.cell? ⟨g, k * 2 + 1, none⟩ = some (.int .i64 q.2) := by
  subst hl
  exact own2_at h hk
def IRel (w : World) (x lb n base ob tb nb : Nat) (now : Int) (P : Nat → Int) (V : Nat → Value) (Q : Nat → List (Int × Int × Int)) (Vo : Nat → Value) (O : Nat → List Nat) (A : Nat → Int) (N : Nat → Nat) (a m : Nat) (vl : Value) (l : List (Int × Int × Int)) (bs : Nat) (gh : Nat) (v : Value) (wr : World) : Prop :=
  ∃ j : Nat, v = .int .i64 (j : Int) ∧ j ≤ m ∧ gh = m - j ∧ Epo wr x lb n base now P V Q ∧ Arr wr ob tb nb base Vo O A (upd N a (N a + j)) ∧ Turn (From w.heap.size) w wr ∧ wr.ownsRow bs 51 2 vl m (cells2 (l.map ref))

theorem info3 : (Try.prog.info? 3).map (fun i => (i.zero, i.size, i.bytes)) = some (some (.int .i64 0), 1, 8) := by kernel_rfl
set_option maxRecDepth 100000 in
set_option maxHeartbeats 16000000 in
theorem each_walk (a0 : Int) (ad : Option Addr) (b off len cap : Nat) (had : len = 0 ∨ ad = some ⟨b, off, none⟩) (K A2 N2 : Nat → Int) (w : World) (hl : Acts w b off len K A2 N2) (hb : 0 < len → b < w.heap.size) (hlen : len ≤ 9223372036854775807) :
    Calls Try.prog 13 #[.int .i64 a0, .slice ad len cap] w fun e w' => e = .returned (.bool true) ∧ Below w.heap.size w w' := by
  obtain ⟨S, s0, s5, HS⟩ := rest_epo a0 5 (by decide) (by decide)
  obtain ⟨n, hn⟩ : ∃ n : Nat, 1 + S = (n : Int) := ⟨(1 + S).toNat, by omega⟩
  have n1 : 1 ≤ n := by omega
  have n5 : n ≤ 5 := by omega
  have HS := Lib.hid HS
  have AW := Lib.hid (epo_awake w)
  have AD := Lib.hid had
  clear had s0 s5
  go_enter Try.func13, Try.ntmps13
  go_wp2_with fail
  refine AW.out.mono ?_
  rintro e w1 ⟨rfl, b1⟩
  have T1 := Lib.hid (Turn.of_below (S := From w.heap.size) b1)
  clear b1
  go_wp2_with fail
  refine (HS.out _).mono ?_
  rintro e w2 ⟨rfl, rfl⟩
  have H0 := Lib.hid (epo_new n n1 (by omega) w1)
  go_wp2_with fail
  refine H0.out.mono ?_
  rintro e w2 ⟨rfl, h2, b2, z2⟩
  go_wp2_with fail
  have z1 := T1.out.size
  have L : ELaid w (w1.heap.size + 1) w1.heap.size n (w1.heap.size + 2 + 1 + 1 + 1) (w1.heap.size + 2) (w1.heap.size + 2 + 1) (w1.heap.size + 2 + 1 + 1) := ⟨⟨⟨by omega, by omega, by omega⟩, ⟨by omega, by omega, by omega⟩, by omega, by omega⟩, by omega, z1, by omega, by omega, by omega, n1, n5⟩
  have R0 : ERel w (w1.heap.size + 1) w1.heap.size n (w1.heap.size + 2 + 1 + 1 + 1) (w1.heap.size + 2) (w1.heap.size + 2 + 1) (w1.heap.size + 2 + 1 + 1) len 60 (.int .i64 0) (((w2.alloc (.cells #[.slice none 0 0, .slice none 0 0, .slice none 0 0, .slice none 0 0, .slice none 0 0] 72)).alloc (.cells #[.int .i64 0, .int .i64 0, .int .i64 0, .int .i64 0, .int .i64 0, .int .i64 0, .int .i64 0, .int .i64 0, .int .i64 0, .int .i64 0, .int .i64 0, .int .i64 0, .int .i64 0, .int .i64 0, .int .i64 0, .int .i64 0, .int .i64 0, .int .i64 0, .int .i64 0, .int .i64 0, .int .i64 0, .int .i64 0, .int .i64 0, .int .i64 0, .int .i64 0, .int .i64 0, .int .i64 0, .int .i64 0, .int .i64 0, .int .i64 0, .int .i64 0, .int .i64 0, .int .i64 0, .int .i64 0, .int .i64 0, .int .i64 0, .int .i64 0, .int .i64 0, .int .i64 0, .int .i64 0, .int .i64 0, .int .i64 0, .int .i64 0, .int .i64 0, .int .i64 0, .int .i64 0, .int .i64 0, .int .i64 0, .int .i64 0, .int .i64 0, .int .i64 0, .int .i64 0, .int .i64 0, .int .i64 0, .int .i64 0, .int .i64 0, .int .i64 0, .int .i64 0, .int .i64 0, .int .i64 0] 73)).alloc (.cells #[.int .i64 0, .int .i64 0, .int .i64 0, .int .i64 0, .int .i64 0] 64)) :=
    ⟨0, 0, _, _, _, _, _, _, _, rfl, Nat.zero_le _, Nat.zero_le _, rfl, Int.le_refl _, (((h2.alloc _).alloc _).alloc _).rebase (by omega) (by simp; omega) (fun _ _ => ⟨rfl, rfl⟩), arr_new w2 _ _ _ _ z2.symm rfl rfl rfl
        (fun k hk => by rw [show (#[.slice none 0 0, .slice none 0 0, .slice none 0 0, .slice none 0 0, .slice none 0 0] : Array Value) = Array.replicate 5 (.slice none 0 0) from rfl]; simp [hk]) (fun k hk => by rw [show (#[.int .i64 0, .int .i64 0, .int .i64 0, .int .i64 0, .int .i64 0, .int .i64 0, .int .i64 0, .int .i64 0, .int .i64 0, .int .i64 0, .int .i64 0, .int .i64 0, .int .i64 0, .int .i64 0, .int .i64 0, .int .i64 0, .int .i64 0, .int .i64 0, .int .i64 0, .int .i64 0, .int .i64 0, .int .i64 0, .int .i64 0, .int .i64 0, .int .i64 0, .int .i64 0, .int .i64 0, .int .i64 0, .int .i64 0, .int .i64 0, .int .i64 0, .int .i64 0, .int .i64 0, .int .i64 0, .int .i64 0, .int .i64 0, .int .i64 0, .int .i64 0, .int .i64 0, .int .i64 0, .int .i64 0, .int .i64 0, .int .i64 0, .int .i64 0, .int .i64 0, .int .i64 0, .int .i64 0, .int .i64 0, .int .i64 0, .int .i64 0, .int .i64 0, .int .i64 0, .int .i64 0, .int .i64 0, .int .i64 0, .int .i64 0, .int .i64 0, .int .i64 0, .int .i64 0, .int .i64 0] : Array Value) = Array.replicate 60 (.int .i64 0) from rfl]; simp [hk]) (fun k hk => by rw [show (#[.int .i64 0, .int .i64 0, .int .i64 0, .int .i64 0, .int .i64 0] : Array Value) = Array.replicate 5 (.int .i64 0) from rfl]; simp [hk]) 72 73 64,
      (((T1.out.comp (Turn.of_below (S := From w.heap.size) b2) (fun _ _ e => e)).alloc _).alloc _).alloc _, ⟨fun a _ => rfl, fun a _ => Nat.le_refl _, fun a _ k hk => (by cases hk), fun a _ => Nat.le_refl _, fun a _ => ⟨List.Pairwise.nil, fun q hq => (by cases hq)⟩⟩⟩
  have L := Lib.hid L
  have HX := Lib.hid (fun wr (ht : Turn (From w.heap.size) w wr) i (hi : i < len) => show wr.cell? ⟨b, off + i * 3, none⟩ = some (.int .i64 (K i)) ∧ wr.cell? ⟨b, off + i * 3 + 1, none⟩ = some (.int .i64 (A2 i)) ∧ wr.cell? ⟨b, off + i * 3 + 2, none⟩ = some (.int .i64 (N2 i)) from by
    have hf : ¬ From w.heap.size b := fun e => by have := hb (by omega); unfold From at e; omega
    obtain ⟨q0, q1, q2⟩ := hl i hi
    exact ⟨ht.cell hf q0, ht.cell hf q1, ht.cell hf q2⟩)
  clear h2 b2 z1 hl hb H0
  generalize ((w2.alloc (.cells #[.slice none 0 0, .slice none 0 0, .slice none 0 0, .slice none 0 0, .slice none 0 0] 72)).alloc (.cells #[.int .i64 0, .int .i64 0, .int .i64 0, .int .i64 0, .int .i64 0, .int .i64 0, .int .i64 0, .int .i64 0, .int .i64 0, .int .i64 0, .int .i64 0, .int .i64 0, .int .i64 0, .int .i64 0, .int .i64 0, .int .i64 0, .int .i64 0, .int .i64 0, .int .i64 0, .int .i64 0, .int .i64 0, .int .i64 0, .int .i64 0, .int .i64 0, .int .i64 0, .int .i64 0, .int .i64 0, .int .i64 0, .int .i64 0, .int .i64 0, .int .i64 0, .int .i64 0, .int .i64 0, .int .i64 0, .int .i64 0, .int .i64 0, .int .i64 0, .int .i64 0, .int .i64 0, .int .i64 0, .int .i64 0, .int .i64 0, .int .i64 0, .int .i64 0, .int .i64 0, .int .i64 0, .int .i64 0, .int .i64 0, .int .i64 0, .int .i64 0, .int .i64 0, .int .i64 0, .int .i64 0, .int .i64 0, .int .i64 0, .int .i64 0, .int .i64 0, .int .i64 0, .int .i64 0, .int .i64 0] 73)).alloc (.cells #[.int .i64 0, .int .i64 0, .int .i64 0, .int .i64 0, .int .i64 0] 64) = w3 at *
  generalize w1.heap.size + 2 + 1 + 1 + 1 = base at *
  generalize w1.heap.size + 2 + 1 + 1 = nb at *
  generalize w1.heap.size + 2 + 1 = tb at *
  generalize w1.heap.size + 2 = ob at *
  generalize w1.heap.size + 1 = x at *
  generalize w1.heap.size = lb at *
  clear z2
  go_loopg [11] 60 (fun gh v11 wr => ERel w x lb n base ob tb nb len gh v11 wr)
  case atStart => exact R0
  case round =>
    clear R0
    obtain ⟨i, now, P, V, Q, Vo, O, A, N, rfl, hi, hi60, hg, hnow, hR⟩ := hrel
    by_cases hil : i < len
    · by_cases hi6 : i < 60
      · obtain rfl := AD.out.resolve_left (by omega)
        obtain ⟨R, r0, r1, HR⟩ := rest_epo (A2 i) n (by omega) (by omega)
        obtain ⟨a, rfl⟩ : ∃ a : Nat, R = (a : Int) := ⟨R.toNat, by omega⟩
        have an : a < n := by omega
        have HR := Lib.hid HR
        obtain ⟨kk, k0, k6, HK⟩ := rest_epo (K i) 6 (by decide) (by decide)
        have HK := Lib.hid HK
        obtain ⟨x0, x1, x2⟩ := HX.out wr hR.tr i hil
        have hi6' : (i : Int) < 60 := by omega
        have hR1 := hR.alloc (.cells #[.int .i64 (K i), .int .i64 (A2 i), .int .i64 (N2 i)] 47)
        have hnow1 : now ≤ (i : Int) + 1 := by omega
        have hkk : kk = 0 ∨ kk = 1 ∨ kk = 2 ∨ kk = 3 ∨ kk = 4 ∨ kk = 5 := by omega
        clear hR r0 r1 k0 k6
        rcases hkk with rfl | rfl | rfl | rfl | rfl | rfl
        · have C := Lib.hid (hR1.pin L.out an)
          clear hR1
          go_wp2_with fail
          refine (HR.out _).mono ?_
          rintro e w4 ⟨rfl, rfl⟩
          go_wp2_with fail
          refine (HK.out _).mono ?_
          rintro e w4 ⟨rfl, rfl⟩
          clear x0 x1 x2
          go_wp2_with fail
          refine C.out.mono ?_
          rintro e w5 ⟨b5, P5, rfl, h5⟩
          have H5 := Lib.hid (And.intro h5 hnow1)
          have an5 : a < 5 := Nat.lt_of_lt_of_le an n5
          have an6 : (a : Int) < 5 := by omega
          have an7 : (0 : Int) ≤ (a : Int) := by omega
          have cov := h5.arr.co a an5
          have cnv := h5.arr.cn a an5
          have row := h5.arr.rows a an5
          have lim := h5.link.limbo an
          have ol60 := h5.link.len a an
          have LM := Lib.hid (fun (u : Unit) => (h5.epo.same ((Turn.refl _ w5).drewd)).limbo_is an)
          obtain ⟨av, cv, ev, _⟩ := own_slice row
          rw [ev] at cov
          generalize (O a).length = ol at cov lim ol60
          generalize N a = nl at cnv lim
          generalize (Q a).length = ql at lim LM
          have lim1 : (ql : Int) = (ol : Int) - (nl : Int) := by omega
          have lim2 : nl ≤ ol := by omega
          have lim3 : IntKind.i64.wrap ((ol : Int) - (nl : Int)) = (ol : Int) - (nl : Int) := IntWalk.i64_in _ (by omega)
          clear h5 row ev hnow1
          go_wp2_with fail
          refine wp_region_held_drew (S := (fun w' => w'.cell? ⟨ob, a, none⟩ = some (.slice av (ol : Nat) cv) ∧ w'.cell? ⟨nb, a, none⟩ = some (.int .i64 ((nl : Nat) : Int)))) (by kernel_rfl) ?hs0 (fun hS0 => ?_)
          case hs0 => ((try dsimp only); first | (go_keep; done) | (refine ⟨?_, ?_⟩ <;> (go_keep; done)))
          refine wpAnyH_take (i := 0) (oi := { dst := some 152, op := Op.move (Operand.tmp 7), type := 42, pos := "law.go:231", after := #[], guard := none }) (v := ?_) rfl (by kernel_rfl) (by kernel_rfl) (by kernel_rfl) (fun _ _ _ h => h) (Or.inl ⟨by rfl, ?hy1⟩) hS0 ?_
          case hy1 => (intro w hSw; (try dsimp only at hSw); go_simp; try with_reducible rfl)
          try simp only [Act.put, List.setIfInBounds_toArray, List.set_cons_zero, List.set_cons_succ]
          refine wpAnyH_take (i := 1) (oi := { dst := some 153, op := Op.move (Operand.tmp 13), type := 3, pos := "law.go:231", after := #[], guard := none }) (v := ?_) rfl (by kernel_rfl) (by kernel_rfl) (by kernel_rfl) (fun _ _ _ h => h) (Or.inl ⟨by rfl, ?hy2⟩) hS0 ?_
          case hy2 => (intro w hSw; (try dsimp only at hSw); go_simp; try with_reducible rfl)
          try simp only [Act.put, List.setIfInBounds_toArray, List.set_cons_zero, List.set_cons_succ]
          refine wpAnyH_take (i := 3) (oi := { dst := some 155, op := Op.move (Operand.tmp 13), type := 3, pos := "law.go:231", after := #[], guard := none }) (v := ?_) rfl (by kernel_rfl) (by kernel_rfl) (by kernel_rfl) (fun _ _ _ h => h) (Or.inl ⟨by rfl, ?hy3⟩) hS0 ?_
          case hy3 => (intro w hSw; (try dsimp only at hSw); go_simp; try with_reducible rfl)
          try simp only [Act.put, List.setIfInBounds_toArray, List.set_cons_zero, List.set_cons_succ]
          refine wpAnyH_take (i := 4) (oi := { dst := some 156, op := Op.indexAddr 72 (Operand.tmp 8) (Operand.tmp 155), type := 0, pos := "law.go:231", after := #[{ on := 3, ground := Ground.data }], guard := none }) (v := ?_) rfl (by kernel_rfl) (by kernel_rfl) (by kernel_rfl) (fun _ _ _ h => h) (Or.inl ⟨by rfl, ?hy4⟩) hS0 ?_
          case hy4 => (intro w hSw; (try dsimp only at hSw); go_simp; try with_reducible rfl)
          try simp only [Act.put, List.setIfInBounds_toArray, List.set_cons_zero, List.set_cons_succ]
          refine wpAnyH_take (i := 5) (oi := { dst := some 157, op := Op.load 27 (Operand.tmp 156), type := 27, pos := "law.go:231", after := #[{ on := 4, ground := Ground.data }], guard := none }) (v := ?_) rfl (by kernel_rfl) (by kernel_rfl) (by kernel_rfl) (fun _ _ _ h => h) (Or.inl ⟨by rfl, ?hy5⟩) hS0 ?_
          case hy5 => (intro w hSw; (try dsimp only at hSw); go_simp; try with_reducible rfl)
          try simp only [Act.put, List.setIfInBounds_toArray, List.set_cons_zero, List.set_cons_succ]
          refine wpAnyH_take (i := 6) (oi := { dst := some 158, op := Op.call { callee := Callee.builtin Builtin.len, args := #[Operand.tmp 157], argTypes := #[27] }, type := 3, pos := "law.go:231", after := #[{ on := 5, ground := Ground.data }], guard := none }) (v := ?_) rfl (by kernel_rfl) (by kernel_rfl) (by kernel_rfl) (fun _ _ _ h => h) (Or.inl ⟨by rfl, ?hy6⟩) hS0 ?_
          case hy6 => (intro w hSw; (try dsimp only at hSw); go_simp; try with_reducible rfl)
          try simp only [Act.put, List.setIfInBounds_toArray, List.set_cons_zero, List.set_cons_succ]
          refine wpAnyH_take (i := 7) (oi := { dst := some 159, op := Op.move (Operand.tmp 13), type := 3, pos := "law.go:231", after := #[], guard := none }) (v := ?_) rfl (by kernel_rfl) (by kernel_rfl) (by kernel_rfl) (fun _ _ _ h => h) (Or.inl ⟨by rfl, ?hy7⟩) hS0 ?_
          case hy7 => (intro w hSw; (try dsimp only at hSw); go_simp; try with_reducible rfl)
          try simp only [Act.put, List.setIfInBounds_toArray, List.set_cons_zero, List.set_cons_succ]
          refine wpAnyH_take (i := 8) (oi := { dst := some 160, op := Op.indexAddr 64 (Operand.tmp 10) (Operand.tmp 159), type := 0, pos := "law.go:231", after := #[{ on := 7, ground := Ground.data }], guard := none }) (v := ?_) rfl (by kernel_rfl) (by kernel_rfl) (by kernel_rfl) (fun _ _ _ h => h) (Or.inl ⟨by rfl, ?hy8⟩) hS0 ?_
          case hy8 => (intro w hSw; (try dsimp only at hSw); go_simp; try with_reducible rfl)
          try simp only [Act.put, List.setIfInBounds_toArray, List.set_cons_zero, List.set_cons_succ]
          refine wpAnyH_take (i := 9) (oi := { dst := some 161, op := Op.load 3 (Operand.tmp 160), type := 3, pos := "law.go:231", after := #[{ on := 8, ground := Ground.data }], guard := none }) (v := ?_) rfl (by kernel_rfl) (by kernel_rfl) (by kernel_rfl) (fun _ _ _ h => h) (Or.inl ⟨by rfl, ?hy9⟩) hS0 ?_
          case hy9 => (intro w hSw; (try dsimp only at hSw); go_simp; try with_reducible rfl)
          try simp only [Act.put, List.setIfInBounds_toArray, List.set_cons_zero, List.set_cons_succ]
          refine wpAnyH_take (i := 10) (oi := { dst := some 162, op := Op.binOp BinOp.sub 3 (Operand.tmp 158) (Operand.tmp 161) 3, type := 3, pos := "law.go:231", after := #[{ on := 6, ground := Ground.data }, { on := 9, ground := Ground.data }], guard := none }) (v := ?_) rfl (by kernel_rfl) (by kernel_rfl) (by kernel_rfl) (fun _ _ _ h => h) (Or.inl ⟨by rfl, ?hy10⟩) hS0 ?_
          case hy10 => (intro w hSw; (try dsimp only at hSw); go_simp; try with_reducible rfl)
          try simp only [Act.put, List.setIfInBounds_toArray, List.set_cons_zero, List.set_cons_succ]
          refine wpAnyH_ready (rs := [2]) (by kernel_rfl) (by simp) ?_
          refine AllReadyH.cons (o := { dst := some 154, op := Op.call { callee := Callee.value (Operand.func 47), args := #[Operand.tmp 152, Operand.tmp 153], argTypes := #[42, 3] }, type := 3, pos := "law.go:231", after := #[{ on := 0, ground := Ground.data }, { on := 1, ground := Ground.data }], guard := none }) rfl (fun K hK => ?_) ?_
          · go_simp; with_reducible refine (LM.out ()).mono ?_; rintro e w6 ⟨rfl, rfl⟩; go_simp
            refine hK.out _ _ ?hs11 (fun hS11 => ?_)
            case hs11 => ((try dsimp only); first | (go_keep; done) | (refine ⟨?_, ?_⟩ <;> (go_keep; done)))
            clear hK K hS0
            refine wpAnyH_ready (rs := [11]) (by kernel_rfl) (by simp) ?_
            refine AllReadyH.cons (o := { dst := some 163, op := Op.binOp BinOp.neq 3 (Operand.tmp 154) (Operand.tmp 162) 3, type := 4, pos := "law.go:231", after := #[{ on := 2, ground := Ground.data }, { on := 10, ground := Ground.data }], guard := none }) rfl (fun K hK => ?_) ?_
            · go_simp
              refine hK.out _ _ ?hs12 (fun hS12 => ?_)
              case hs12 => ((try dsimp only); first | (go_keep; done) | (refine ⟨?_, ?_⟩ <;> (go_keep; done)))
              clear hK K hS11
              refine wpAnyH_done (by kernel_rfl) ?_ _
              go_wp2_with fail
              go_roundg (60 - (i + 1))
              case measure => omega
              case rel => exact ⟨i + 1, _, _, _, _, _, _, _, _, by go_num, by omega, by omega, rfl, by have := H5.out.2; omega, H5.out.1.same ((Turn.refl _ w5).drewd)⟩
            exact AllReadyH.nil
          exact AllReadyH.nil
        · have C := Lib.hid (hR1.unpin L.out an)
          clear hR1
          go_wp2_with fail
          refine (HR.out _).mono ?_
          rintro e w4 ⟨rfl, rfl⟩
          go_wp2_with fail
          refine (HK.out _).mono ?_
          rintro e w4 ⟨rfl, rfl⟩
          clear x0 x1 x2
          go_wp2_with fail
          refine C.out.mono ?_
          rintro e w5 ⟨b5, P5, rfl, h5⟩
          have H5 := Lib.hid (And.intro h5 hnow1)
          have an5 : a < 5 := Nat.lt_of_lt_of_le an n5
          have an6 : (a : Int) < 5 := by omega
          have an7 : (0 : Int) ≤ (a : Int) := by omega
          have cov := h5.arr.co a an5
          have cnv := h5.arr.cn a an5
          have row := h5.arr.rows a an5
          have lim := h5.link.limbo an
          have ol60 := h5.link.len a an
          have LM := Lib.hid (fun (u : Unit) => (h5.epo.same ((Turn.refl _ w5).drewd)).limbo_is an)
          obtain ⟨av, cv, ev, _⟩ := own_slice row
          rw [ev] at cov
          generalize (O a).length = ol at cov lim ol60
          generalize N a = nl at cnv lim
          generalize (Q a).length = ql at lim LM
          have lim1 : (ql : Int) = (ol : Int) - (nl : Int) := by omega
          have lim2 : nl ≤ ol := by omega
          have lim3 : IntKind.i64.wrap ((ol : Int) - (nl : Int)) = (ol : Int) - (nl : Int) := IntWalk.i64_in _ (by omega)
          clear h5 row ev hnow1
          go_wp2_with fail
          refine wp_region_held_drew (S := (fun w' => w'.cell? ⟨ob, a, none⟩ = some (.slice av (ol : Nat) cv) ∧ w'.cell? ⟨nb, a, none⟩ = some (.int .i64 ((nl : Nat) : Int)))) (by kernel_rfl) ?hs0 (fun hS0 => ?_)
          case hs0 => ((try dsimp only); first | (go_keep; done) | (refine ⟨?_, ?_⟩ <;> (go_keep; done)))
          refine wpAnyH_take (i := 0) (oi := { dst := some 152, op := Op.move (Operand.tmp 7), type := 42, pos := "law.go:231", after := #[], guard := none }) (v := ?_) rfl (by kernel_rfl) (by kernel_rfl) (by kernel_rfl) (fun _ _ _ h => h) (Or.inl ⟨by rfl, ?hy1⟩) hS0 ?_
          case hy1 => (intro w hSw; (try dsimp only at hSw); go_simp; try with_reducible rfl)
          try simp only [Act.put, List.setIfInBounds_toArray, List.set_cons_zero, List.set_cons_succ]
          refine wpAnyH_take (i := 1) (oi := { dst := some 153, op := Op.move (Operand.tmp 13), type := 3, pos := "law.go:231", after := #[], guard := none }) (v := ?_) rfl (by kernel_rfl) (by kernel_rfl) (by kernel_rfl) (fun _ _ _ h => h) (Or.inl ⟨by rfl, ?hy2⟩) hS0 ?_
          case hy2 => (intro w hSw; (try dsimp only at hSw); go_simp; try with_reducible rfl)
          try simp only [Act.put, List.setIfInBounds_toArray, List.set_cons_zero, List.set_cons_succ]
          refine wpAnyH_take (i := 3) (oi := { dst := some 155, op := Op.move (Operand.tmp 13), type := 3, pos := "law.go:231", after := #[], guard := none }) (v := ?_) rfl (by kernel_rfl) (by kernel_rfl) (by kernel_rfl) (fun _ _ _ h => h) (Or.inl ⟨by rfl, ?hy3⟩) hS0 ?_
          case hy3 => (intro w hSw; (try dsimp only at hSw); go_simp; try with_reducible rfl)
          try simp only [Act.put, List.setIfInBounds_toArray, List.set_cons_zero, List.set_cons_succ]
          refine wpAnyH_take (i := 4) (oi := { dst := some 156, op := Op.indexAddr 72 (Operand.tmp 8) (Operand.tmp 155), type := 0, pos := "law.go:231", after := #[{ on := 3, ground := Ground.data }], guard := none }) (v := ?_) rfl (by kernel_rfl) (by kernel_rfl) (by kernel_rfl) (fun _ _ _ h => h) (Or.inl ⟨by rfl, ?hy4⟩) hS0 ?_
          case hy4 => (intro w hSw; (try dsimp only at hSw); go_simp; try with_reducible rfl)
          try simp only [Act.put, List.setIfInBounds_toArray, List.set_cons_zero, List.set_cons_succ]
          refine wpAnyH_take (i := 5) (oi := { dst := some 157, op := Op.load 27 (Operand.tmp 156), type := 27, pos := "law.go:231", after := #[{ on := 4, ground := Ground.data }], guard := none }) (v := ?_) rfl (by kernel_rfl) (by kernel_rfl) (by kernel_rfl) (fun _ _ _ h => h) (Or.inl ⟨by rfl, ?hy5⟩) hS0 ?_
          case hy5 => (intro w hSw; (try dsimp only at hSw); go_simp; try with_reducible rfl)
          try simp only [Act.put, List.setIfInBounds_toArray, List.set_cons_zero, List.set_cons_succ]
          refine wpAnyH_take (i := 6) (oi := { dst := some 158, op := Op.call { callee := Callee.builtin Builtin.len, args := #[Operand.tmp 157], argTypes := #[27] }, type := 3, pos := "law.go:231", after := #[{ on := 5, ground := Ground.data }], guard := none }) (v := ?_) rfl (by kernel_rfl) (by kernel_rfl) (by kernel_rfl) (fun _ _ _ h => h) (Or.inl ⟨by rfl, ?hy6⟩) hS0 ?_
          case hy6 => (intro w hSw; (try dsimp only at hSw); go_simp; try with_reducible rfl)
          try simp only [Act.put, List.setIfInBounds_toArray, List.set_cons_zero, List.set_cons_succ]
          refine wpAnyH_take (i := 7) (oi := { dst := some 159, op := Op.move (Operand.tmp 13), type := 3, pos := "law.go:231", after := #[], guard := none }) (v := ?_) rfl (by kernel_rfl) (by kernel_rfl) (by kernel_rfl) (fun _ _ _ h => h) (Or.inl ⟨by rfl, ?hy7⟩) hS0 ?_
          case hy7 => (intro w hSw; (try dsimp only at hSw); go_simp; try with_reducible rfl)
          try simp only [Act.put, List.setIfInBounds_toArray, List.set_cons_zero, List.set_cons_succ]
          refine wpAnyH_take (i := 8) (oi := { dst := some 160, op := Op.indexAddr 64 (Operand.tmp 10) (Operand.tmp 159), type := 0, pos := "law.go:231", after := #[{ on := 7, ground := Ground.data }], guard := none }) (v := ?_) rfl (by kernel_rfl) (by kernel_rfl) (by kernel_rfl) (fun _ _ _ h => h) (Or.inl ⟨by rfl, ?hy8⟩) hS0 ?_
          case hy8 => (intro w hSw; (try dsimp only at hSw); go_simp; try with_reducible rfl)
          try simp only [Act.put, List.setIfInBounds_toArray, List.set_cons_zero, List.set_cons_succ]
          refine wpAnyH_take (i := 9) (oi := { dst := some 161, op := Op.load 3 (Operand.tmp 160), type := 3, pos := "law.go:231", after := #[{ on := 8, ground := Ground.data }], guard := none }) (v := ?_) rfl (by kernel_rfl) (by kernel_rfl) (by kernel_rfl) (fun _ _ _ h => h) (Or.inl ⟨by rfl, ?hy9⟩) hS0 ?_
          case hy9 => (intro w hSw; (try dsimp only at hSw); go_simp; try with_reducible rfl)
          try simp only [Act.put, List.setIfInBounds_toArray, List.set_cons_zero, List.set_cons_succ]
          refine wpAnyH_take (i := 10) (oi := { dst := some 162, op := Op.binOp BinOp.sub 3 (Operand.tmp 158) (Operand.tmp 161) 3, type := 3, pos := "law.go:231", after := #[{ on := 6, ground := Ground.data }, { on := 9, ground := Ground.data }], guard := none }) (v := ?_) rfl (by kernel_rfl) (by kernel_rfl) (by kernel_rfl) (fun _ _ _ h => h) (Or.inl ⟨by rfl, ?hy10⟩) hS0 ?_
          case hy10 => (intro w hSw; (try dsimp only at hSw); go_simp; try with_reducible rfl)
          try simp only [Act.put, List.setIfInBounds_toArray, List.set_cons_zero, List.set_cons_succ]
          refine wpAnyH_ready (rs := [2]) (by kernel_rfl) (by simp) ?_
          refine AllReadyH.cons (o := { dst := some 154, op := Op.call { callee := Callee.value (Operand.func 47), args := #[Operand.tmp 152, Operand.tmp 153], argTypes := #[42, 3] }, type := 3, pos := "law.go:231", after := #[{ on := 0, ground := Ground.data }, { on := 1, ground := Ground.data }], guard := none }) rfl (fun K hK => ?_) ?_
          · go_simp; with_reducible refine (LM.out ()).mono ?_; rintro e w6 ⟨rfl, rfl⟩; go_simp
            refine hK.out _ _ ?hs11 (fun hS11 => ?_)
            case hs11 => ((try dsimp only); first | (go_keep; done) | (refine ⟨?_, ?_⟩ <;> (go_keep; done)))
            clear hK K hS0
            refine wpAnyH_ready (rs := [11]) (by kernel_rfl) (by simp) ?_
            refine AllReadyH.cons (o := { dst := some 163, op := Op.binOp BinOp.neq 3 (Operand.tmp 154) (Operand.tmp 162) 3, type := 4, pos := "law.go:231", after := #[{ on := 2, ground := Ground.data }, { on := 10, ground := Ground.data }], guard := none }) rfl (fun K hK => ?_) ?_
            · go_simp
              refine hK.out _ _ ?hs12 (fun hS12 => ?_)
              case hs12 => ((try dsimp only); first | (go_keep; done) | (refine ⟨?_, ?_⟩ <;> (go_keep; done)))
              clear hK K hS11
              refine wpAnyH_done (by kernel_rfl) ?_ _
              go_wp2_with fail
              go_roundg (60 - (i + 1))
              case measure => omega
              case rel => exact ⟨i + 1, _, _, _, _, _, _, _, _, by go_num, by omega, by omega, rfl, by have := H5.out.2; omega, H5.out.1.same ((Turn.refl _ w5).drewd)⟩
            exact AllReadyH.nil
          exact AllReadyH.nil
        · have C := Lib.hid (hR1.retire L.out an (by omega))
          have E := Lib.hid hR1.link
          clear hR1
          go_wp2_with fail
          refine (HR.out _).mono ?_
          rintro e w4 ⟨rfl, rfl⟩
          go_wp2_with fail
          refine (HK.out _).mono ?_
          rintro e w4 ⟨rfl, rfl⟩
          clear x0 x1 x2
          go_wp2_with fail
          refine C.out.mono ?_
          rintro e w5 ⟨rfl, V5, h5, g5, t5⟩
          have an5 : a < 5 := Nat.lt_of_lt_of_le an n5
          have an6 : (a : Int) < 5 := by omega
          have an7 : (0 : Int) ≤ (a : Int) := by omega
          have cov := g5.co a an5
          have fov := g5.fo a
          have row := g5.rows a an5
          have nob : (Vo a).ownBlock ≠ some ob := fun e => by have := ((g5.rows a an5).lt _ e).1; have := g5.lo; omega
          have bw5 := g5.bw
          have olt : ob < w5.heap.size := block_lt_of_cell cov
          have ol60 := E.out.len a an
          have D := Lib.hid (And.intro h5 (And.intro g5 t5))
          generalize hVa : Vo a = va at cov row nob
          obtain ⟨ao, co, ev, _⟩ := own_slice row
          subst ev
          obtain ⟨i3, j1, j2, j3, j4⟩ := info_parts info3
          clear h5 g5 t5 C
          go_wp2_with (at_builtin; refine wpList_append_lies _ rfl (.tmp 65) (.tmp 67) 27 rfl base 3 i3 (.int .i64 0) 1 8 Try.underlying27 j1 j2 j3 j4 rfl (by decide) (.slice ao (O a).length co) (O a).length (ids (O a)) rfl (row.alloc _) ⟨w5.heap.size, 0, none⟩ 1 1 [.int .i64 (i : Int)] rfl rfl (cells_new _ [.int .i64 (i : Int)] _ _ rfl) (by simp [Value.oneCell']) (by decide) (by unfold maxLen; omega) (by omega) (by simp; omega) (w5.heap.size + 1) (by simp) ?_; intro gg cap2 w6 hown1 hgrow hat hlt; have f1 : w6.frozen? ⟨ob, a, none⟩ = false := (by rw [hgrow.frozen_far _ (by simp; omega) (Ne.symm nob)]; exact (frozen?_alloc_cells _ _ _ _).trans fov); have k1 : w6.cell? ⟨ob, a, none⟩ = some (.slice ao (O a).length co) := (by rw [hgrow.cell_far _ (by simp; omega) (Ne.symm nob)]; exact past cov))
          obtain ⟨Vo', z1, z2, z3⟩ := ordered L.out D.out.1 D.out.2.1 D.out.2.2 an5 (by rw [hVa]; exact hgrow) hown1 (by rw [hVa]; exact hat)
          generalize w6.setCell ⟨ob, a, none⟩ (.slice (some ⟨gg, 0, none⟩) ((O a).length + 1) cap2) = w7 at *
          have C46 := Lib.hid z1.now_is
          have ct7 := z2.ct i hi6
          have ft7 := z2.ft i
          have Y := Lib.hid (dated L.out z1 z2 z3 E.out an hi6)
          clear z1 z2 z3 f1 k1 hown1 hgrow hat hlt cov fov row nob bw5 olt ol60 an5 an6 an7
          go_wp2_with fail
          refine C46.out.mono ?_
          rintro e w8 ⟨rfl, rfl⟩
          go_wp2_with fail
          have h5 := Y.out
          generalize w7.setCell ⟨tb, i, none⟩ (.int .i64 now) = w5 at *
          clear ct7 ft7 Y C46
          have H5 := Lib.hid (And.intro h5 hnow1)
          have an5 : a < 5 := Nat.lt_of_lt_of_le an n5
          have an6 : (a : Int) < 5 := by omega
          have an7 : (0 : Int) ≤ (a : Int) := by omega
          have cov := h5.arr.co a an5
          have cnv := h5.arr.cn a an5
          have row := h5.arr.rows a an5
          have lim := h5.link.limbo an
          have ol60 := h5.link.len a an
          have LM := Lib.hid (fun (u : Unit) => (h5.epo.same ((Turn.refl _ w5).drewd)).limbo_is an)
          obtain ⟨av, cv, ev, _⟩ := own_slice row
          rw [ev] at cov
          generalize (upd O a (O a ++ [i]) a).length = ol at cov lim ol60
          generalize N a = nl at cnv lim
          generalize (upd Q a (Q a ++ [((i : Int), 0, now)]) a).length = ql at lim LM
          have lim1 : (ql : Int) = (ol : Int) - (nl : Int) := by omega
          have lim2 : nl ≤ ol := by omega
          have lim3 : IntKind.i64.wrap ((ol : Int) - (nl : Int)) = (ol : Int) - (nl : Int) := IntWalk.i64_in _ (by omega)
          clear h5 row ev hnow1
          go_wp2_with fail
          refine wp_region_held_drew (S := (fun w' => w'.cell? ⟨ob, a, none⟩ = some (.slice av (ol : Nat) cv) ∧ w'.cell? ⟨nb, a, none⟩ = some (.int .i64 ((nl : Nat) : Int)))) (by kernel_rfl) ?hs0 (fun hS0 => ?_)
          case hs0 => ((try dsimp only); first | (go_keep; done) | (refine ⟨?_, ?_⟩ <;> (go_keep; done)))
          refine wpAnyH_take (i := 0) (oi := { dst := some 152, op := Op.move (Operand.tmp 7), type := 42, pos := "law.go:231", after := #[], guard := none }) (v := ?_) rfl (by kernel_rfl) (by kernel_rfl) (by kernel_rfl) (fun _ _ _ h => h) (Or.inl ⟨by rfl, ?hy1⟩) hS0 ?_
          case hy1 => (intro w hSw; (try dsimp only at hSw); go_simp; try with_reducible rfl)
          try simp only [Act.put, List.setIfInBounds_toArray, List.set_cons_zero, List.set_cons_succ]
          refine wpAnyH_take (i := 1) (oi := { dst := some 153, op := Op.move (Operand.tmp 13), type := 3, pos := "law.go:231", after := #[], guard := none }) (v := ?_) rfl (by kernel_rfl) (by kernel_rfl) (by kernel_rfl) (fun _ _ _ h => h) (Or.inl ⟨by rfl, ?hy2⟩) hS0 ?_
          case hy2 => (intro w hSw; (try dsimp only at hSw); go_simp; try with_reducible rfl)
          try simp only [Act.put, List.setIfInBounds_toArray, List.set_cons_zero, List.set_cons_succ]
          refine wpAnyH_take (i := 3) (oi := { dst := some 155, op := Op.move (Operand.tmp 13), type := 3, pos := "law.go:231", after := #[], guard := none }) (v := ?_) rfl (by kernel_rfl) (by kernel_rfl) (by kernel_rfl) (fun _ _ _ h => h) (Or.inl ⟨by rfl, ?hy3⟩) hS0 ?_
          case hy3 => (intro w hSw; (try dsimp only at hSw); go_simp; try with_reducible rfl)
          try simp only [Act.put, List.setIfInBounds_toArray, List.set_cons_zero, List.set_cons_succ]
          refine wpAnyH_take (i := 4) (oi := { dst := some 156, op := Op.indexAddr 72 (Operand.tmp 8) (Operand.tmp 155), type := 0, pos := "law.go:231", after := #[{ on := 3, ground := Ground.data }], guard := none }) (v := ?_) rfl (by kernel_rfl) (by kernel_rfl) (by kernel_rfl) (fun _ _ _ h => h) (Or.inl ⟨by rfl, ?hy4⟩) hS0 ?_
          case hy4 => (intro w hSw; (try dsimp only at hSw); go_simp; try with_reducible rfl)
          try simp only [Act.put, List.setIfInBounds_toArray, List.set_cons_zero, List.set_cons_succ]
          refine wpAnyH_take (i := 5) (oi := { dst := some 157, op := Op.load 27 (Operand.tmp 156), type := 27, pos := "law.go:231", after := #[{ on := 4, ground := Ground.data }], guard := none }) (v := ?_) rfl (by kernel_rfl) (by kernel_rfl) (by kernel_rfl) (fun _ _ _ h => h) (Or.inl ⟨by rfl, ?hy5⟩) hS0 ?_
          case hy5 => (intro w hSw; (try dsimp only at hSw); go_simp; try with_reducible rfl)
          try simp only [Act.put, List.setIfInBounds_toArray, List.set_cons_zero, List.set_cons_succ]
          refine wpAnyH_take (i := 6) (oi := { dst := some 158, op := Op.call { callee := Callee.builtin Builtin.len, args := #[Operand.tmp 157], argTypes := #[27] }, type := 3, pos := "law.go:231", after := #[{ on := 5, ground := Ground.data }], guard := none }) (v := ?_) rfl (by kernel_rfl) (by kernel_rfl) (by kernel_rfl) (fun _ _ _ h => h) (Or.inl ⟨by rfl, ?hy6⟩) hS0 ?_
          case hy6 => (intro w hSw; (try dsimp only at hSw); go_simp; try with_reducible rfl)
          try simp only [Act.put, List.setIfInBounds_toArray, List.set_cons_zero, List.set_cons_succ]
          refine wpAnyH_take (i := 7) (oi := { dst := some 159, op := Op.move (Operand.tmp 13), type := 3, pos := "law.go:231", after := #[], guard := none }) (v := ?_) rfl (by kernel_rfl) (by kernel_rfl) (by kernel_rfl) (fun _ _ _ h => h) (Or.inl ⟨by rfl, ?hy7⟩) hS0 ?_
          case hy7 => (intro w hSw; (try dsimp only at hSw); go_simp; try with_reducible rfl)
          try simp only [Act.put, List.setIfInBounds_toArray, List.set_cons_zero, List.set_cons_succ]
          refine wpAnyH_take (i := 8) (oi := { dst := some 160, op := Op.indexAddr 64 (Operand.tmp 10) (Operand.tmp 159), type := 0, pos := "law.go:231", after := #[{ on := 7, ground := Ground.data }], guard := none }) (v := ?_) rfl (by kernel_rfl) (by kernel_rfl) (by kernel_rfl) (fun _ _ _ h => h) (Or.inl ⟨by rfl, ?hy8⟩) hS0 ?_
          case hy8 => (intro w hSw; (try dsimp only at hSw); go_simp; try with_reducible rfl)
          try simp only [Act.put, List.setIfInBounds_toArray, List.set_cons_zero, List.set_cons_succ]
          refine wpAnyH_take (i := 9) (oi := { dst := some 161, op := Op.load 3 (Operand.tmp 160), type := 3, pos := "law.go:231", after := #[{ on := 8, ground := Ground.data }], guard := none }) (v := ?_) rfl (by kernel_rfl) (by kernel_rfl) (by kernel_rfl) (fun _ _ _ h => h) (Or.inl ⟨by rfl, ?hy9⟩) hS0 ?_
          case hy9 => (intro w hSw; (try dsimp only at hSw); go_simp; try with_reducible rfl)
          try simp only [Act.put, List.setIfInBounds_toArray, List.set_cons_zero, List.set_cons_succ]
          refine wpAnyH_take (i := 10) (oi := { dst := some 162, op := Op.binOp BinOp.sub 3 (Operand.tmp 158) (Operand.tmp 161) 3, type := 3, pos := "law.go:231", after := #[{ on := 6, ground := Ground.data }, { on := 9, ground := Ground.data }], guard := none }) (v := ?_) rfl (by kernel_rfl) (by kernel_rfl) (by kernel_rfl) (fun _ _ _ h => h) (Or.inl ⟨by rfl, ?hy10⟩) hS0 ?_
          case hy10 => (intro w hSw; (try dsimp only at hSw); go_simp; try with_reducible rfl)
          try simp only [Act.put, List.setIfInBounds_toArray, List.set_cons_zero, List.set_cons_succ]
          refine wpAnyH_ready (rs := [2]) (by kernel_rfl) (by simp) ?_
          refine AllReadyH.cons (o := { dst := some 154, op := Op.call { callee := Callee.value (Operand.func 47), args := #[Operand.tmp 152, Operand.tmp 153], argTypes := #[42, 3] }, type := 3, pos := "law.go:231", after := #[{ on := 0, ground := Ground.data }, { on := 1, ground := Ground.data }], guard := none }) rfl (fun K hK => ?_) ?_
          · go_simp; with_reducible refine (LM.out ()).mono ?_; rintro e w6 ⟨rfl, rfl⟩; go_simp
            refine hK.out _ _ ?hs11 (fun hS11 => ?_)
            case hs11 => ((try dsimp only); first | (go_keep; done) | (refine ⟨?_, ?_⟩ <;> (go_keep; done)))
            clear hK K hS0
            refine wpAnyH_ready (rs := [11]) (by kernel_rfl) (by simp) ?_
            refine AllReadyH.cons (o := { dst := some 163, op := Op.binOp BinOp.neq 3 (Operand.tmp 154) (Operand.tmp 162) 3, type := 4, pos := "law.go:231", after := #[{ on := 2, ground := Ground.data }, { on := 10, ground := Ground.data }], guard := none }) rfl (fun K hK => ?_) ?_
            · go_simp
              refine hK.out _ _ ?hs12 (fun hS12 => ?_)
              case hs12 => ((try dsimp only); first | (go_keep; done) | (refine ⟨?_, ?_⟩ <;> (go_keep; done)))
              clear hK K hS11
              refine wpAnyH_done (by kernel_rfl) ?_ _
              go_wp2_with fail
              go_roundg (60 - (i + 1))
              case measure => omega
              case rel => exact ⟨i + 1, _, _, _, _, _, _, _, _, by go_num, by omega, by omega, rfl, by have := H5.out.2; omega, H5.out.1.same ((Turn.refl _ w5).drewd)⟩
            exact AllReadyH.nil
          exact AllReadyH.nil
        · have C := Lib.hid (hR1.adv L.out (by omega))
          clear hR1
          go_wp2_with fail
          refine (HR.out _).mono ?_
          rintro e w4 ⟨rfl, rfl⟩
          go_wp2_with fail
          refine (HK.out _).mono ?_
          rintro e w4 ⟨rfl, rfl⟩
          clear x0 x1 x2
          go_wp2_with fail
          refine C.out.mono ?_
          rintro e w5 ⟨b5, now5, rfl, hnow5, h5⟩
          have hnow1 : now5 ≤ (i : Int) + 1 := by omega
          have H5 := Lib.hid (And.intro h5 hnow1)
          have an5 : a < 5 := Nat.lt_of_lt_of_le an n5
          have an6 : (a : Int) < 5 := by omega
          have an7 : (0 : Int) ≤ (a : Int) := by omega
          have cov := h5.arr.co a an5
          have cnv := h5.arr.cn a an5
          have row := h5.arr.rows a an5
          have lim := h5.link.limbo an
          have ol60 := h5.link.len a an
          have LM := Lib.hid (fun (u : Unit) => (h5.epo.same ((Turn.refl _ w5).drewd)).limbo_is an)
          obtain ⟨av, cv, ev, _⟩ := own_slice row
          rw [ev] at cov
          generalize (O a).length = ol at cov lim ol60
          generalize N a = nl at cnv lim
          generalize (Q a).length = ql at lim LM
          have lim1 : (ql : Int) = (ol : Int) - (nl : Int) := by omega
          have lim2 : nl ≤ ol := by omega
          have lim3 : IntKind.i64.wrap ((ol : Int) - (nl : Int)) = (ol : Int) - (nl : Int) := IntWalk.i64_in _ (by omega)
          clear h5 row ev hnow1
          go_wp2_with fail
          refine wp_region_held_drew (S := (fun w' => w'.cell? ⟨ob, a, none⟩ = some (.slice av (ol : Nat) cv) ∧ w'.cell? ⟨nb, a, none⟩ = some (.int .i64 ((nl : Nat) : Int)))) (by kernel_rfl) ?hs0 (fun hS0 => ?_)
          case hs0 => ((try dsimp only); first | (go_keep; done) | (refine ⟨?_, ?_⟩ <;> (go_keep; done)))
          refine wpAnyH_take (i := 0) (oi := { dst := some 152, op := Op.move (Operand.tmp 7), type := 42, pos := "law.go:231", after := #[], guard := none }) (v := ?_) rfl (by kernel_rfl) (by kernel_rfl) (by kernel_rfl) (fun _ _ _ h => h) (Or.inl ⟨by rfl, ?hy1⟩) hS0 ?_
          case hy1 => (intro w hSw; (try dsimp only at hSw); go_simp; try with_reducible rfl)
          try simp only [Act.put, List.setIfInBounds_toArray, List.set_cons_zero, List.set_cons_succ]
          refine wpAnyH_take (i := 1) (oi := { dst := some 153, op := Op.move (Operand.tmp 13), type := 3, pos := "law.go:231", after := #[], guard := none }) (v := ?_) rfl (by kernel_rfl) (by kernel_rfl) (by kernel_rfl) (fun _ _ _ h => h) (Or.inl ⟨by rfl, ?hy2⟩) hS0 ?_
          case hy2 => (intro w hSw; (try dsimp only at hSw); go_simp; try with_reducible rfl)
          try simp only [Act.put, List.setIfInBounds_toArray, List.set_cons_zero, List.set_cons_succ]
          refine wpAnyH_take (i := 3) (oi := { dst := some 155, op := Op.move (Operand.tmp 13), type := 3, pos := "law.go:231", after := #[], guard := none }) (v := ?_) rfl (by kernel_rfl) (by kernel_rfl) (by kernel_rfl) (fun _ _ _ h => h) (Or.inl ⟨by rfl, ?hy3⟩) hS0 ?_
          case hy3 => (intro w hSw; (try dsimp only at hSw); go_simp; try with_reducible rfl)
          try simp only [Act.put, List.setIfInBounds_toArray, List.set_cons_zero, List.set_cons_succ]
          refine wpAnyH_take (i := 4) (oi := { dst := some 156, op := Op.indexAddr 72 (Operand.tmp 8) (Operand.tmp 155), type := 0, pos := "law.go:231", after := #[{ on := 3, ground := Ground.data }], guard := none }) (v := ?_) rfl (by kernel_rfl) (by kernel_rfl) (by kernel_rfl) (fun _ _ _ h => h) (Or.inl ⟨by rfl, ?hy4⟩) hS0 ?_
          case hy4 => (intro w hSw; (try dsimp only at hSw); go_simp; try with_reducible rfl)
          try simp only [Act.put, List.setIfInBounds_toArray, List.set_cons_zero, List.set_cons_succ]
          refine wpAnyH_take (i := 5) (oi := { dst := some 157, op := Op.load 27 (Operand.tmp 156), type := 27, pos := "law.go:231", after := #[{ on := 4, ground := Ground.data }], guard := none }) (v := ?_) rfl (by kernel_rfl) (by kernel_rfl) (by kernel_rfl) (fun _ _ _ h => h) (Or.inl ⟨by rfl, ?hy5⟩) hS0 ?_
          case hy5 => (intro w hSw; (try dsimp only at hSw); go_simp; try with_reducible rfl)
          try simp only [Act.put, List.setIfInBounds_toArray, List.set_cons_zero, List.set_cons_succ]
          refine wpAnyH_take (i := 6) (oi := { dst := some 158, op := Op.call { callee := Callee.builtin Builtin.len, args := #[Operand.tmp 157], argTypes := #[27] }, type := 3, pos := "law.go:231", after := #[{ on := 5, ground := Ground.data }], guard := none }) (v := ?_) rfl (by kernel_rfl) (by kernel_rfl) (by kernel_rfl) (fun _ _ _ h => h) (Or.inl ⟨by rfl, ?hy6⟩) hS0 ?_
          case hy6 => (intro w hSw; (try dsimp only at hSw); go_simp; try with_reducible rfl)
          try simp only [Act.put, List.setIfInBounds_toArray, List.set_cons_zero, List.set_cons_succ]
          refine wpAnyH_take (i := 7) (oi := { dst := some 159, op := Op.move (Operand.tmp 13), type := 3, pos := "law.go:231", after := #[], guard := none }) (v := ?_) rfl (by kernel_rfl) (by kernel_rfl) (by kernel_rfl) (fun _ _ _ h => h) (Or.inl ⟨by rfl, ?hy7⟩) hS0 ?_
          case hy7 => (intro w hSw; (try dsimp only at hSw); go_simp; try with_reducible rfl)
          try simp only [Act.put, List.setIfInBounds_toArray, List.set_cons_zero, List.set_cons_succ]
          refine wpAnyH_take (i := 8) (oi := { dst := some 160, op := Op.indexAddr 64 (Operand.tmp 10) (Operand.tmp 159), type := 0, pos := "law.go:231", after := #[{ on := 7, ground := Ground.data }], guard := none }) (v := ?_) rfl (by kernel_rfl) (by kernel_rfl) (by kernel_rfl) (fun _ _ _ h => h) (Or.inl ⟨by rfl, ?hy8⟩) hS0 ?_
          case hy8 => (intro w hSw; (try dsimp only at hSw); go_simp; try with_reducible rfl)
          try simp only [Act.put, List.setIfInBounds_toArray, List.set_cons_zero, List.set_cons_succ]
          refine wpAnyH_take (i := 9) (oi := { dst := some 161, op := Op.load 3 (Operand.tmp 160), type := 3, pos := "law.go:231", after := #[{ on := 8, ground := Ground.data }], guard := none }) (v := ?_) rfl (by kernel_rfl) (by kernel_rfl) (by kernel_rfl) (fun _ _ _ h => h) (Or.inl ⟨by rfl, ?hy9⟩) hS0 ?_
          case hy9 => (intro w hSw; (try dsimp only at hSw); go_simp; try with_reducible rfl)
          try simp only [Act.put, List.setIfInBounds_toArray, List.set_cons_zero, List.set_cons_succ]
          refine wpAnyH_take (i := 10) (oi := { dst := some 162, op := Op.binOp BinOp.sub 3 (Operand.tmp 158) (Operand.tmp 161) 3, type := 3, pos := "law.go:231", after := #[{ on := 6, ground := Ground.data }, { on := 9, ground := Ground.data }], guard := none }) (v := ?_) rfl (by kernel_rfl) (by kernel_rfl) (by kernel_rfl) (fun _ _ _ h => h) (Or.inl ⟨by rfl, ?hy10⟩) hS0 ?_
          case hy10 => (intro w hSw; (try dsimp only at hSw); go_simp; try with_reducible rfl)
          try simp only [Act.put, List.setIfInBounds_toArray, List.set_cons_zero, List.set_cons_succ]
          refine wpAnyH_ready (rs := [2]) (by kernel_rfl) (by simp) ?_
          refine AllReadyH.cons (o := { dst := some 154, op := Op.call { callee := Callee.value (Operand.func 47), args := #[Operand.tmp 152, Operand.tmp 153], argTypes := #[42, 3] }, type := 3, pos := "law.go:231", after := #[{ on := 0, ground := Ground.data }, { on := 1, ground := Ground.data }], guard := none }) rfl (fun K hK => ?_) ?_
          · go_simp; with_reducible refine (LM.out ()).mono ?_; rintro e w6 ⟨rfl, rfl⟩; go_simp
            refine hK.out _ _ ?hs11 (fun hS11 => ?_)
            case hs11 => ((try dsimp only); first | (go_keep; done) | (refine ⟨?_, ?_⟩ <;> (go_keep; done)))
            clear hK K hS0
            refine wpAnyH_ready (rs := [11]) (by kernel_rfl) (by simp) ?_
            refine AllReadyH.cons (o := { dst := some 163, op := Op.binOp BinOp.neq 3 (Operand.tmp 154) (Operand.tmp 162) 3, type := 4, pos := "law.go:231", after := #[{ on := 2, ground := Ground.data }, { on := 10, ground := Ground.data }], guard := none }) rfl (fun K hK => ?_) ?_
            · go_simp
              refine hK.out _ _ ?hs12 (fun hS12 => ?_)
              case hs12 => ((try dsimp only); first | (go_keep; done) | (refine ⟨?_, ?_⟩ <;> (go_keep; done)))
              clear hK K hS11
              refine wpAnyH_done (by kernel_rfl) ?_ _
              go_wp2_with fail
              go_roundg (60 - (i + 1))
              case measure => omega
              case rel => exact ⟨i + 1, _, _, _, _, _, _, _, _, by go_num, by omega, by omega, rfl, by have := H5.out.2; omega, H5.out.1.same ((Turn.refl _ w5).drewd)⟩
            exact AllReadyH.nil
          exact AllReadyH.nil
        · have C := Lib.hid (hR1.adv L.out (by omega))
          clear hR1
          go_wp2_with fail
          refine (HR.out _).mono ?_
          rintro e w4 ⟨rfl, rfl⟩
          go_wp2_with fail
          refine (HK.out _).mono ?_
          rintro e w4 ⟨rfl, rfl⟩
          clear x0 x1 x2
          go_wp2_with fail
          refine C.out.mono ?_
          rintro e w5 ⟨b5, now5, rfl, hnow5, h5⟩
          have hnow1 : now5 ≤ (i : Int) + 1 := by omega
          have H5 := Lib.hid (And.intro h5 hnow1)
          have an5 : a < 5 := Nat.lt_of_lt_of_le an n5
          have an6 : (a : Int) < 5 := by omega
          have an7 : (0 : Int) ≤ (a : Int) := by omega
          have cov := h5.arr.co a an5
          have cnv := h5.arr.cn a an5
          have row := h5.arr.rows a an5
          have lim := h5.link.limbo an
          have ol60 := h5.link.len a an
          have LM := Lib.hid (fun (u : Unit) => (h5.epo.same ((Turn.refl _ w5).drewd)).limbo_is an)
          obtain ⟨av, cv, ev, _⟩ := own_slice row
          rw [ev] at cov
          generalize (O a).length = ol at cov lim ol60
          generalize N a = nl at cnv lim
          generalize (Q a).length = ql at lim LM
          have lim1 : (ql : Int) = (ol : Int) - (nl : Int) := by omega
          have lim2 : nl ≤ ol := by omega
          have lim3 : IntKind.i64.wrap ((ol : Int) - (nl : Int)) = (ol : Int) - (nl : Int) := IntWalk.i64_in _ (by omega)
          clear h5 row ev hnow1
          go_wp2_with fail
          refine wp_region_held_drew (S := (fun w' => w'.cell? ⟨ob, a, none⟩ = some (.slice av (ol : Nat) cv) ∧ w'.cell? ⟨nb, a, none⟩ = some (.int .i64 ((nl : Nat) : Int)))) (by kernel_rfl) ?hs0 (fun hS0 => ?_)
          case hs0 => ((try dsimp only); first | (go_keep; done) | (refine ⟨?_, ?_⟩ <;> (go_keep; done)))
          refine wpAnyH_take (i := 0) (oi := { dst := some 152, op := Op.move (Operand.tmp 7), type := 42, pos := "law.go:231", after := #[], guard := none }) (v := ?_) rfl (by kernel_rfl) (by kernel_rfl) (by kernel_rfl) (fun _ _ _ h => h) (Or.inl ⟨by rfl, ?hy1⟩) hS0 ?_
          case hy1 => (intro w hSw; (try dsimp only at hSw); go_simp; try with_reducible rfl)
          try simp only [Act.put, List.setIfInBounds_toArray, List.set_cons_zero, List.set_cons_succ]
          refine wpAnyH_take (i := 1) (oi := { dst := some 153, op := Op.move (Operand.tmp 13), type := 3, pos := "law.go:231", after := #[], guard := none }) (v := ?_) rfl (by kernel_rfl) (by kernel_rfl) (by kernel_rfl) (fun _ _ _ h => h) (Or.inl ⟨by rfl, ?hy2⟩) hS0 ?_
          case hy2 => (intro w hSw; (try dsimp only at hSw); go_simp; try with_reducible rfl)
          try simp only [Act.put, List.setIfInBounds_toArray, List.set_cons_zero, List.set_cons_succ]
          refine wpAnyH_take (i := 3) (oi := { dst := some 155, op := Op.move (Operand.tmp 13), type := 3, pos := "law.go:231", after := #[], guard := none }) (v := ?_) rfl (by kernel_rfl) (by kernel_rfl) (by kernel_rfl) (fun _ _ _ h => h) (Or.inl ⟨by rfl, ?hy3⟩) hS0 ?_
          case hy3 => (intro w hSw; (try dsimp only at hSw); go_simp; try with_reducible rfl)
          try simp only [Act.put, List.setIfInBounds_toArray, List.set_cons_zero, List.set_cons_succ]
          refine wpAnyH_take (i := 4) (oi := { dst := some 156, op := Op.indexAddr 72 (Operand.tmp 8) (Operand.tmp 155), type := 0, pos := "law.go:231", after := #[{ on := 3, ground := Ground.data }], guard := none }) (v := ?_) rfl (by kernel_rfl) (by kernel_rfl) (by kernel_rfl) (fun _ _ _ h => h) (Or.inl ⟨by rfl, ?hy4⟩) hS0 ?_
          case hy4 => (intro w hSw; (try dsimp only at hSw); go_simp; try with_reducible rfl)
          try simp only [Act.put, List.setIfInBounds_toArray, List.set_cons_zero, List.set_cons_succ]
          refine wpAnyH_take (i := 5) (oi := { dst := some 157, op := Op.load 27 (Operand.tmp 156), type := 27, pos := "law.go:231", after := #[{ on := 4, ground := Ground.data }], guard := none }) (v := ?_) rfl (by kernel_rfl) (by kernel_rfl) (by kernel_rfl) (fun _ _ _ h => h) (Or.inl ⟨by rfl, ?hy5⟩) hS0 ?_
          case hy5 => (intro w hSw; (try dsimp only at hSw); go_simp; try with_reducible rfl)
          try simp only [Act.put, List.setIfInBounds_toArray, List.set_cons_zero, List.set_cons_succ]
          refine wpAnyH_take (i := 6) (oi := { dst := some 158, op := Op.call { callee := Callee.builtin Builtin.len, args := #[Operand.tmp 157], argTypes := #[27] }, type := 3, pos := "law.go:231", after := #[{ on := 5, ground := Ground.data }], guard := none }) (v := ?_) rfl (by kernel_rfl) (by kernel_rfl) (by kernel_rfl) (fun _ _ _ h => h) (Or.inl ⟨by rfl, ?hy6⟩) hS0 ?_
          case hy6 => (intro w hSw; (try dsimp only at hSw); go_simp; try with_reducible rfl)
          try simp only [Act.put, List.setIfInBounds_toArray, List.set_cons_zero, List.set_cons_succ]
          refine wpAnyH_take (i := 7) (oi := { dst := some 159, op := Op.move (Operand.tmp 13), type := 3, pos := "law.go:231", after := #[], guard := none }) (v := ?_) rfl (by kernel_rfl) (by kernel_rfl) (by kernel_rfl) (fun _ _ _ h => h) (Or.inl ⟨by rfl, ?hy7⟩) hS0 ?_
          case hy7 => (intro w hSw; (try dsimp only at hSw); go_simp; try with_reducible rfl)
          try simp only [Act.put, List.setIfInBounds_toArray, List.set_cons_zero, List.set_cons_succ]
          refine wpAnyH_take (i := 8) (oi := { dst := some 160, op := Op.indexAddr 64 (Operand.tmp 10) (Operand.tmp 159), type := 0, pos := "law.go:231", after := #[{ on := 7, ground := Ground.data }], guard := none }) (v := ?_) rfl (by kernel_rfl) (by kernel_rfl) (by kernel_rfl) (fun _ _ _ h => h) (Or.inl ⟨by rfl, ?hy8⟩) hS0 ?_
          case hy8 => (intro w hSw; (try dsimp only at hSw); go_simp; try with_reducible rfl)
          try simp only [Act.put, List.setIfInBounds_toArray, List.set_cons_zero, List.set_cons_succ]
          refine wpAnyH_take (i := 9) (oi := { dst := some 161, op := Op.load 3 (Operand.tmp 160), type := 3, pos := "law.go:231", after := #[{ on := 8, ground := Ground.data }], guard := none }) (v := ?_) rfl (by kernel_rfl) (by kernel_rfl) (by kernel_rfl) (fun _ _ _ h => h) (Or.inl ⟨by rfl, ?hy9⟩) hS0 ?_
          case hy9 => (intro w hSw; (try dsimp only at hSw); go_simp; try with_reducible rfl)
          try simp only [Act.put, List.setIfInBounds_toArray, List.set_cons_zero, List.set_cons_succ]
          refine wpAnyH_take (i := 10) (oi := { dst := some 162, op := Op.binOp BinOp.sub 3 (Operand.tmp 158) (Operand.tmp 161) 3, type := 3, pos := "law.go:231", after := #[{ on := 6, ground := Ground.data }, { on := 9, ground := Ground.data }], guard := none }) (v := ?_) rfl (by kernel_rfl) (by kernel_rfl) (by kernel_rfl) (fun _ _ _ h => h) (Or.inl ⟨by rfl, ?hy10⟩) hS0 ?_
          case hy10 => (intro w hSw; (try dsimp only at hSw); go_simp; try with_reducible rfl)
          try simp only [Act.put, List.setIfInBounds_toArray, List.set_cons_zero, List.set_cons_succ]
          refine wpAnyH_ready (rs := [2]) (by kernel_rfl) (by simp) ?_
          refine AllReadyH.cons (o := { dst := some 154, op := Op.call { callee := Callee.value (Operand.func 47), args := #[Operand.tmp 152, Operand.tmp 153], argTypes := #[42, 3] }, type := 3, pos := "law.go:231", after := #[{ on := 0, ground := Ground.data }, { on := 1, ground := Ground.data }], guard := none }) rfl (fun K hK => ?_) ?_
          · go_simp; with_reducible refine (LM.out ()).mono ?_; rintro e w6 ⟨rfl, rfl⟩; go_simp
            refine hK.out _ _ ?hs11 (fun hS11 => ?_)
            case hs11 => ((try dsimp only); first | (go_keep; done) | (refine ⟨?_, ?_⟩ <;> (go_keep; done)))
            clear hK K hS0
            refine wpAnyH_ready (rs := [11]) (by kernel_rfl) (by simp) ?_
            refine AllReadyH.cons (o := { dst := some 163, op := Op.binOp BinOp.neq 3 (Operand.tmp 154) (Operand.tmp 162) 3, type := 4, pos := "law.go:231", after := #[{ on := 2, ground := Ground.data }, { on := 10, ground := Ground.data }], guard := none }) rfl (fun K hK => ?_) ?_
            · go_simp
              refine hK.out _ _ ?hs12 (fun hS12 => ?_)
              case hs12 => ((try dsimp only); first | (go_keep; done) | (refine ⟨?_, ?_⟩ <;> (go_keep; done)))
              clear hK K hS11
              refine wpAnyH_done (by kernel_rfl) ?_ _
              go_wp2_with fail
              go_roundg (60 - (i + 1))
              case measure => omega
              case rel => exact ⟨i + 1, _, _, _, _, _, _, _, _, by go_num, by omega, by omega, rfl, by have := H5.out.2; omega, H5.out.1.same ((Turn.refl _ w5).drewd)⟩
            exact AllReadyH.nil
          exact AllReadyH.nil
        · have hl60 : (Q a).length ≤ 60 := by have := hR1.link.limbo an; have := hR1.link.len a an; omega
          obtain ⟨m, hm, et, ek, hrip, hnot⟩ := srt_split now (Q a) (hR1.link.srt a an).1
          have C := Lib.hid (hR1.epo.ripe an (by omega))
          have E := Lib.hid (And.intro hR1 (And.intro et (And.intro ek (And.intro hrip hnot))))
          clear hR1 et ek hrip hnot
          go_wp2_with fail
          refine (HR.out _).mono ?_
          rintro e w4 ⟨rfl, rfl⟩
          go_wp2_with fail
          refine (HK.out _).mono ?_
          rintro e w4 ⟨rfl, rfl⟩
          clear x0 x1 x2
          go_wp2_with fail
          refine C.out.mono ?_
          rintro e w5 hP
          unfold RipePost at hP
          obtain ⟨vl, v', rfl, ho, h5, t5⟩ := hP
          have g5 := E.out.1.arr.keepE E.out.1.epo L.out.off t5
          have tr5 := L.out.epoS E.out.1.epo t5 E.out.1.tr
          rw [E.out.2.1, List.length_map, List.length_take, Nat.min_eq_left hm] at ho
          obtain ⟨ao, co, ev, _⟩ := own_slice ho
          subst ev
          have an5 : a < 5 := Nat.lt_of_lt_of_le an n5
          have an6 : (a : Int) < 5 := by omega
          have an7 : (0 : Int) ≤ (a : Int) := by omega
          have hbs := E.out.1.arr.bw
          generalize (wr.alloc (.cells #[.int .i64 (K i), .int .i64 (A2 i), .int .i64 (N2 i)] 47)).heap.size = bs at ho hbs
          have I0 : IRel w x lb n base ob tb nb now P (upd V a v') (upd Q a (kept now (Q a))) Vo O A N a m (.slice ao m co) ((Q a).take m) bs m (.int .i64 0) w5 :=
            ⟨0, rfl, Nat.zero_le _, rfl, h5, by
              have e : upd N a (N a + 0) = N := by
                funext k
                by_cases h : k = a
                · subst h
                  rw [upd_at]
                  rfl
                · rw [upd_off _ _ h]
              rw [e]
              exact g5, tr5, ho⟩
          clear h5 g5 tr5 t5 ho C
          go_wp2_with fail
          go_loopg [15] m (fun gh v15 wr => IRel w x lb n base ob tb nb now P (upd V a v') (upd Q a (kept now (Q a))) Vo O A N a m (.slice ao m co) ((Q a).take m) bs gh v15 wr)
          case atStart => exact I0
          case round =>
            clear I0
            obtain ⟨j, rfl, hj, hg2, h5, g5, tr5, ho⟩ := hrel
            by_cases hjm : j < m
            · obtain ⟨k, hk1, hk2, hk3⟩ := E.out.1.link.at an (show j < (Q a).length by omega)
              have hAk := E.out.2.2.2.1 j _ hjm hk3
              have hrj : (((Q a).take m).map ref)[j]? = some ((k : Int), 0) := by
                rw [List.getElem?_map, List.getElem?_take, if_pos hjm, hk3]
                rfl
              have hlm : (((Q a).take m).map ref).length = m := by rw [List.length_map, List.length_take, Nat.min_eq_left hm]
              obtain ⟨gq, cq, eq, y0, y1⟩ := own2_atN ho hlm hrj
              injection eq with eq1 eq2 eq3
              subst eq1
              subst eq3
              clear eq2
              have cnv := g5.cn a an5
              rw [upd_at] at cnv
              have cov := g5.co a an5
              have row := g5.rows a an5
              obtain ⟨a8, c8, e8, s8⟩ := own_slice row
              rw [e8] at cov row
              obtain ⟨g8, e9⟩ := s8 (by have := (List.getElem?_eq_some_iff.1 hk1).1; omega)
              subst e9
              have hk1l := (List.getElem?_eq_some_iff.1 hk1).1
              have z0 : wr.cell? ⟨g8, N a + j, none⟩ = some (.int .i64 (k : Int)) := (row.cellAt (N a + j) (by omega)).trans (by
                unfold ids
                rw [List.getElem?_map, hk1]
                rfl)
              have z1 := g5.ct k (by omega)
              have fnv := g5.fn a
              have NQ := Lib.hid (fun d => ((h5.same ((Turn.refl _ _).drewN d)).now_is).mono (fun e w' ⟨he, hw⟩ => show e = Ending.returned (.int .i64 now) ∧ ∃ d, w' = _ from ⟨he, d, hw.symm⟩))
              have hw : IntKind.i64.wrap (now - 2) = now - 2 := IntWalk.i64_in _ (by have := E.out.1.epo.nn; omega)
              have hAk2 : A k ≤ now - 2 := hAk
              have hkj : (N a + j : Nat) = N a + j := rfl
              obtain ⟨nj, hnj⟩ : ∃ nj, N a + j = nj := ⟨_, rfl⟩
              have U := Lib.hid (And.intro h5 (And.intro g5 (And.intro tr5 (And.intro ho (And.intro hg2 hnj)))))
              rw [hnj] at cnv z0 hk1l
              have k60 : (k : Int) < 60 := by omega
              have ol60 := E.out.1.link.len a an
              generalize (O a).length = ol at cov hk1l ol60
              generalize A k = ak at z1 hAk2
              have hk1i : (nj : Int) < (ol : Int) := by omega
              simp only at y0
              clear h5 g5 tr5 ho hg2 hnj row e8 s8 hrj hlm hAk hk1 hk3 hkj y1
              go_wp2_with fail
              go_quiet ((go_at_call 46; exact NQ.out _))
              go_wp2_with fail
              go_roundg (m - (j + 1))
              case measure => have := U.out.2.2.2.2.1; omega
              case rel =>
                obtain ⟨h5, g5, tr5, ho, _, hnj⟩ := U.out
                have td : Turn (fun _ => False) wr (wr.drewN nq) := (Turn.refl _ wr).drewN nq
                have g6 := g5.same td
                obtain ⟨g7, t7⟩ := g6.setNext an5 (nj + 1)
                have hz : ((nj + 1 : Nat) : Int) = (nj : Int) + 1 := by omega
                rw [hz] at g7 t7
                refine ⟨j + 1, by go_num, by omega, rfl, (h5.same td).keepA g6 L.out.off t7, ?_, L.out.arrS g6 t7 (tr5.trans td.none), ?_⟩
                · have e : upd N a (N a + (j + 1)) = upd (upd N a (N a + j)) a (nj + 1) := by
                    funext q
                    by_cases h : q = a
                    · subst h
                      rw [upd_at, upd_at]
                      omega
                    · rw [upd_off _ _ h, upd_off _ _ h, upd_off _ _ h]
                  rw [e]
                  exact g7
                · exact own_keep (own_turn ho td (fun _ _ => id)) (fun k hk => Below.heap_setCell _ _ _ _ (by have := (ho.lt k hk).1; have := g5.ln; show k ≠ nb; omega))
            · have hjm' : j = m := by omega
              subst hjm'
              have hlim := E.out.1.link.limbo an
              have hlk := (E.out.1.link.ripened an hm E.out.2.2.1).more (Nat.le_succ i) (Int.le_refl now)
              have NQ := Lib.hid (fun d => ((h5.same ((Turn.refl _ _).drewN d)).now_is).mono (fun e w' ⟨he, hw⟩ => show e = Ending.returned (.int .i64 now) ∧ ∃ d, w' = _ from ⟨he, d, hw.symm⟩))
              have cnv := g5.cn a an5
              rw [upd_at] at cnv
              have cov := g5.co a an5
              have row := g5.rows a an5
              have ol60 := E.out.1.link.len a an
              obtain ⟨a8, c8, e8, s8⟩ := own_slice row
              rw [e8] at cov row
              have hw : IntKind.i64.wrap (now - 2) = now - 2 := IntWalk.i64_in _ (by have := E.out.1.epo.nn; omega)
              have U := Lib.hid (And.intro h5 (And.intro g5 (And.intro tr5 hlk)))
              by_cases hfull : N a + j = (O a).length
              · have hfi : ((O a).length : Int) ≤ ((N a + j : Nat) : Int) := by omega
                generalize N a + j = nj at cnv hfi
                generalize (O a).length = ol at cov hfi ol60
                have hfb : decide ((nj : Int) < (ol : Int)) = false := by simp; omega
                have hfn : ¬ nj < ol := by omega
                clear h5 g5 tr5 hg2 ho row e8 s8 hlim hlk hfull hfi
                go_wp2_with fail
                go_quiet ((go_at_call 46; exact NQ.out _))
                go_wp2_with fail
                obtain ⟨q5, q6, q7, q8⟩ := U.out
                have td : Turn (fun _ => False) wr (wr.drewN nq) := (Turn.refl _ wr).drewN nq
                have h5 : ESt w (wr.drewN nq) x lb n base ob tb nb now P (upd V a v') (upd Q a (kept now (Q a))) Vo O A (upd N a (N a + j)) (i + 1) := ⟨q5.same td, q6.same td, q7.trans td.none, q8⟩
                clear q5 q6 q7 q8 cnv cov U td
                generalize wr.drewN nq = w5 at *
                have H5 := Lib.hid (And.intro h5 hnow1)
                have an5 : a < 5 := Nat.lt_of_lt_of_le an n5
                have an6 : (a : Int) < 5 := by omega
                have an7 : (0 : Int) ≤ (a : Int) := by omega
                have cov := h5.arr.co a an5
                have cnv := h5.arr.cn a an5
                have row := h5.arr.rows a an5
                have lim := h5.link.limbo an
                have ol60 := h5.link.len a an
                have LM := Lib.hid (fun (u : Unit) => (h5.epo.same ((Turn.refl _ w5).drewd)).limbo_is an)
                obtain ⟨av, cv, ev, _⟩ := own_slice row
                rw [ev] at cov
                generalize (O a).length = ol at cov lim ol60
                generalize upd N a (N a + j) a = nl at cnv lim
                generalize (upd Q a (kept now (Q a)) a).length = ql at lim LM
                have lim1 : (ql : Int) = (ol : Int) - (nl : Int) := by omega
                have lim2 : nl ≤ ol := by omega
                have lim3 : IntKind.i64.wrap ((ol : Int) - (nl : Int)) = (ol : Int) - (nl : Int) := IntWalk.i64_in _ (by omega)
                clear h5 row ev hnow1
                go_wp2_with fail
                refine wp_region_held_drew (S := (fun w' => w'.cell? ⟨ob, a, none⟩ = some (.slice av (ol : Nat) cv) ∧ w'.cell? ⟨nb, a, none⟩ = some (.int .i64 ((nl : Nat) : Int)))) (by kernel_rfl) ?hs0 (fun hS0 => ?_)
                case hs0 => ((try dsimp only); first | (go_keep; done) | (refine ⟨?_, ?_⟩ <;> (go_keep; done)))
                refine wpAnyH_take (i := 0) (oi := { dst := some 152, op := Op.move (Operand.tmp 7), type := 42, pos := "law.go:231", after := #[], guard := none }) (v := ?_) rfl (by kernel_rfl) (by kernel_rfl) (by kernel_rfl) (fun _ _ _ h => h) (Or.inl ⟨by rfl, ?hy1⟩) hS0 ?_
                case hy1 => (intro w hSw; (try dsimp only at hSw); go_simp; try with_reducible rfl)
                try simp only [Act.put, List.setIfInBounds_toArray, List.set_cons_zero, List.set_cons_succ]
                refine wpAnyH_take (i := 1) (oi := { dst := some 153, op := Op.move (Operand.tmp 13), type := 3, pos := "law.go:231", after := #[], guard := none }) (v := ?_) rfl (by kernel_rfl) (by kernel_rfl) (by kernel_rfl) (fun _ _ _ h => h) (Or.inl ⟨by rfl, ?hy2⟩) hS0 ?_
                case hy2 => (intro w hSw; (try dsimp only at hSw); go_simp; try with_reducible rfl)
                try simp only [Act.put, List.setIfInBounds_toArray, List.set_cons_zero, List.set_cons_succ]
                refine wpAnyH_take (i := 3) (oi := { dst := some 155, op := Op.move (Operand.tmp 13), type := 3, pos := "law.go:231", after := #[], guard := none }) (v := ?_) rfl (by kernel_rfl) (by kernel_rfl) (by kernel_rfl) (fun _ _ _ h => h) (Or.inl ⟨by rfl, ?hy3⟩) hS0 ?_
                case hy3 => (intro w hSw; (try dsimp only at hSw); go_simp; try with_reducible rfl)
                try simp only [Act.put, List.setIfInBounds_toArray, List.set_cons_zero, List.set_cons_succ]
                refine wpAnyH_take (i := 4) (oi := { dst := some 156, op := Op.indexAddr 72 (Operand.tmp 8) (Operand.tmp 155), type := 0, pos := "law.go:231", after := #[{ on := 3, ground := Ground.data }], guard := none }) (v := ?_) rfl (by kernel_rfl) (by kernel_rfl) (by kernel_rfl) (fun _ _ _ h => h) (Or.inl ⟨by rfl, ?hy4⟩) hS0 ?_
                case hy4 => (intro w hSw; (try dsimp only at hSw); go_simp; try with_reducible rfl)
                try simp only [Act.put, List.setIfInBounds_toArray, List.set_cons_zero, List.set_cons_succ]
                refine wpAnyH_take (i := 5) (oi := { dst := some 157, op := Op.load 27 (Operand.tmp 156), type := 27, pos := "law.go:231", after := #[{ on := 4, ground := Ground.data }], guard := none }) (v := ?_) rfl (by kernel_rfl) (by kernel_rfl) (by kernel_rfl) (fun _ _ _ h => h) (Or.inl ⟨by rfl, ?hy5⟩) hS0 ?_
                case hy5 => (intro w hSw; (try dsimp only at hSw); go_simp; try with_reducible rfl)
                try simp only [Act.put, List.setIfInBounds_toArray, List.set_cons_zero, List.set_cons_succ]
                refine wpAnyH_take (i := 6) (oi := { dst := some 158, op := Op.call { callee := Callee.builtin Builtin.len, args := #[Operand.tmp 157], argTypes := #[27] }, type := 3, pos := "law.go:231", after := #[{ on := 5, ground := Ground.data }], guard := none }) (v := ?_) rfl (by kernel_rfl) (by kernel_rfl) (by kernel_rfl) (fun _ _ _ h => h) (Or.inl ⟨by rfl, ?hy6⟩) hS0 ?_
                case hy6 => (intro w hSw; (try dsimp only at hSw); go_simp; try with_reducible rfl)
                try simp only [Act.put, List.setIfInBounds_toArray, List.set_cons_zero, List.set_cons_succ]
                refine wpAnyH_take (i := 7) (oi := { dst := some 159, op := Op.move (Operand.tmp 13), type := 3, pos := "law.go:231", after := #[], guard := none }) (v := ?_) rfl (by kernel_rfl) (by kernel_rfl) (by kernel_rfl) (fun _ _ _ h => h) (Or.inl ⟨by rfl, ?hy7⟩) hS0 ?_
                case hy7 => (intro w hSw; (try dsimp only at hSw); go_simp; try with_reducible rfl)
                try simp only [Act.put, List.setIfInBounds_toArray, List.set_cons_zero, List.set_cons_succ]
                refine wpAnyH_take (i := 8) (oi := { dst := some 160, op := Op.indexAddr 64 (Operand.tmp 10) (Operand.tmp 159), type := 0, pos := "law.go:231", after := #[{ on := 7, ground := Ground.data }], guard := none }) (v := ?_) rfl (by kernel_rfl) (by kernel_rfl) (by kernel_rfl) (fun _ _ _ h => h) (Or.inl ⟨by rfl, ?hy8⟩) hS0 ?_
                case hy8 => (intro w hSw; (try dsimp only at hSw); go_simp; try with_reducible rfl)
                try simp only [Act.put, List.setIfInBounds_toArray, List.set_cons_zero, List.set_cons_succ]
                refine wpAnyH_take (i := 9) (oi := { dst := some 161, op := Op.load 3 (Operand.tmp 160), type := 3, pos := "law.go:231", after := #[{ on := 8, ground := Ground.data }], guard := none }) (v := ?_) rfl (by kernel_rfl) (by kernel_rfl) (by kernel_rfl) (fun _ _ _ h => h) (Or.inl ⟨by rfl, ?hy9⟩) hS0 ?_
                case hy9 => (intro w hSw; (try dsimp only at hSw); go_simp; try with_reducible rfl)
                try simp only [Act.put, List.setIfInBounds_toArray, List.set_cons_zero, List.set_cons_succ]
                refine wpAnyH_take (i := 10) (oi := { dst := some 162, op := Op.binOp BinOp.sub 3 (Operand.tmp 158) (Operand.tmp 161) 3, type := 3, pos := "law.go:231", after := #[{ on := 6, ground := Ground.data }, { on := 9, ground := Ground.data }], guard := none }) (v := ?_) rfl (by kernel_rfl) (by kernel_rfl) (by kernel_rfl) (fun _ _ _ h => h) (Or.inl ⟨by rfl, ?hy10⟩) hS0 ?_
                case hy10 => (intro w hSw; (try dsimp only at hSw); go_simp; try with_reducible rfl)
                try simp only [Act.put, List.setIfInBounds_toArray, List.set_cons_zero, List.set_cons_succ]
                refine wpAnyH_ready (rs := [2]) (by kernel_rfl) (by simp) ?_
                refine AllReadyH.cons (o := { dst := some 154, op := Op.call { callee := Callee.value (Operand.func 47), args := #[Operand.tmp 152, Operand.tmp 153], argTypes := #[42, 3] }, type := 3, pos := "law.go:231", after := #[{ on := 0, ground := Ground.data }, { on := 1, ground := Ground.data }], guard := none }) rfl (fun K hK => ?_) ?_
                · go_simp; with_reducible refine (LM.out ()).mono ?_; rintro e w6 ⟨rfl, rfl⟩; go_simp
                  refine hK.out _ _ ?hs11 (fun hS11 => ?_)
                  case hs11 => ((try dsimp only); first | (go_keep; done) | (refine ⟨?_, ?_⟩ <;> (go_keep; done)))
                  clear hK K hS0
                  refine wpAnyH_ready (rs := [11]) (by kernel_rfl) (by simp) ?_
                  refine AllReadyH.cons (o := { dst := some 163, op := Op.binOp BinOp.neq 3 (Operand.tmp 154) (Operand.tmp 162) 3, type := 4, pos := "law.go:231", after := #[{ on := 2, ground := Ground.data }, { on := 10, ground := Ground.data }], guard := none }) rfl (fun K hK => ?_) ?_
                  · go_simp
                    refine hK.out _ _ ?hs12 (fun hS12 => ?_)
                    case hs12 => ((try dsimp only); first | (go_keep; done) | (refine ⟨?_, ?_⟩ <;> (go_keep; done)))
                    clear hK K hS11
                    refine wpAnyH_done (by kernel_rfl) ?_ _
                    go_wp2_with fail
                    go_roundg (60 - (i + 1))
                    case measure => omega
                    case rel => exact ⟨i + 1, _, _, _, _, _, _, _, _, by go_num, by omega, by omega, rfl, by have := H5.out.2; omega, H5.out.1.same ((Turn.refl _ w5).drewd)⟩
                  exact AllReadyH.nil
                exact AllReadyH.nil
              · obtain ⟨k, hk1, hk2, hk3⟩ := E.out.1.link.at an (show j < (Q a).length by omega)
                have hAk2 : ¬ A k ≤ now - 2 := by
                  have h0 := E.out.2.2.2.2 _ hk3
                  unfold recOf at h0
                  simp only at h0
                  omega
                have hk1l := (List.getElem?_eq_some_iff.1 hk1).1
                obtain ⟨g8, e9⟩ := s8 (by omega)
                subst e9
                have z0 : wr.cell? ⟨g8, N a + j, none⟩ = some (.int .i64 (k : Int)) := (row.cellAt (N a + j) (by omega)).trans (by
                  unfold ids
                  rw [List.getElem?_map, hk1]
                  rfl)
                have z1 := g5.ct k (by omega)
                have k60 : (k : Int) < 60 := by omega
                have hfi : ((N a + j : Nat) : Int) < ((O a).length : Int) := by omega
                generalize N a + j = nj at cnv hfi z0 hk1l
                generalize (O a).length = ol at cov hfi ol60 hk1l
                generalize A k = ak at z1 hAk2
                have hfb : decide ((nj : Int) < (ol : Int)) = true := by simp; omega
                clear h5 g5 tr5 hg2 ho row e8 s8 hlim hlk hfull hk1 hk3
                go_wp2_with fail
                go_quiet ((go_at_call 46; exact NQ.out _))
                go_wp2_with fail
                obtain ⟨q5, q6, q7, q8⟩ := U.out
                have td : Turn (fun _ => False) wr (wr.drewN nq) := (Turn.refl _ wr).drewN nq
                have h5 : ESt w (wr.drewN nq) x lb n base ob tb nb now P (upd V a v') (upd Q a (kept now (Q a))) Vo O A (upd N a (N a + j)) (i + 1) := ⟨q5.same td, q6.same td, q7.trans td.none, q8⟩
                clear q5 q6 q7 q8 cnv cov U td
                generalize wr.drewN nq = w5 at *
                have H5 := Lib.hid (And.intro h5 hnow1)
                have an5 : a < 5 := Nat.lt_of_lt_of_le an n5
                have an6 : (a : Int) < 5 := by omega
                have an7 : (0 : Int) ≤ (a : Int) := by omega
                have cov := h5.arr.co a an5
                have cnv := h5.arr.cn a an5
                have row := h5.arr.rows a an5
                have lim := h5.link.limbo an
                have ol60 := h5.link.len a an
                have LM := Lib.hid (fun (u : Unit) => (h5.epo.same ((Turn.refl _ w5).drewd)).limbo_is an)
                obtain ⟨av, cv, ev, _⟩ := own_slice row
                rw [ev] at cov
                generalize (O a).length = ol at cov lim ol60
                generalize upd N a (N a + j) a = nl at cnv lim
                generalize (upd Q a (kept now (Q a)) a).length = ql at lim LM
                have lim1 : (ql : Int) = (ol : Int) - (nl : Int) := by omega
                have lim2 : nl ≤ ol := by omega
                have lim3 : IntKind.i64.wrap ((ol : Int) - (nl : Int)) = (ol : Int) - (nl : Int) := IntWalk.i64_in _ (by omega)
                clear h5 row ev hnow1
                go_wp2_with fail
                refine wp_region_held_drew (S := (fun w' => w'.cell? ⟨ob, a, none⟩ = some (.slice av (ol : Nat) cv) ∧ w'.cell? ⟨nb, a, none⟩ = some (.int .i64 ((nl : Nat) : Int)))) (by kernel_rfl) ?hs0 (fun hS0 => ?_)
                case hs0 => ((try dsimp only); first | (go_keep; done) | (refine ⟨?_, ?_⟩ <;> (go_keep; done)))
                refine wpAnyH_take (i := 0) (oi := { dst := some 152, op := Op.move (Operand.tmp 7), type := 42, pos := "law.go:231", after := #[], guard := none }) (v := ?_) rfl (by kernel_rfl) (by kernel_rfl) (by kernel_rfl) (fun _ _ _ h => h) (Or.inl ⟨by rfl, ?hy1⟩) hS0 ?_
                case hy1 => (intro w hSw; (try dsimp only at hSw); go_simp; try with_reducible rfl)
                try simp only [Act.put, List.setIfInBounds_toArray, List.set_cons_zero, List.set_cons_succ]
                refine wpAnyH_take (i := 1) (oi := { dst := some 153, op := Op.move (Operand.tmp 13), type := 3, pos := "law.go:231", after := #[], guard := none }) (v := ?_) rfl (by kernel_rfl) (by kernel_rfl) (by kernel_rfl) (fun _ _ _ h => h) (Or.inl ⟨by rfl, ?hy2⟩) hS0 ?_
                case hy2 => (intro w hSw; (try dsimp only at hSw); go_simp; try with_reducible rfl)
                try simp only [Act.put, List.setIfInBounds_toArray, List.set_cons_zero, List.set_cons_succ]
                refine wpAnyH_take (i := 3) (oi := { dst := some 155, op := Op.move (Operand.tmp 13), type := 3, pos := "law.go:231", after := #[], guard := none }) (v := ?_) rfl (by kernel_rfl) (by kernel_rfl) (by kernel_rfl) (fun _ _ _ h => h) (Or.inl ⟨by rfl, ?hy3⟩) hS0 ?_
                case hy3 => (intro w hSw; (try dsimp only at hSw); go_simp; try with_reducible rfl)
                try simp only [Act.put, List.setIfInBounds_toArray, List.set_cons_zero, List.set_cons_succ]
                refine wpAnyH_take (i := 4) (oi := { dst := some 156, op := Op.indexAddr 72 (Operand.tmp 8) (Operand.tmp 155), type := 0, pos := "law.go:231", after := #[{ on := 3, ground := Ground.data }], guard := none }) (v := ?_) rfl (by kernel_rfl) (by kernel_rfl) (by kernel_rfl) (fun _ _ _ h => h) (Or.inl ⟨by rfl, ?hy4⟩) hS0 ?_
                case hy4 => (intro w hSw; (try dsimp only at hSw); go_simp; try with_reducible rfl)
                try simp only [Act.put, List.setIfInBounds_toArray, List.set_cons_zero, List.set_cons_succ]
                refine wpAnyH_take (i := 5) (oi := { dst := some 157, op := Op.load 27 (Operand.tmp 156), type := 27, pos := "law.go:231", after := #[{ on := 4, ground := Ground.data }], guard := none }) (v := ?_) rfl (by kernel_rfl) (by kernel_rfl) (by kernel_rfl) (fun _ _ _ h => h) (Or.inl ⟨by rfl, ?hy5⟩) hS0 ?_
                case hy5 => (intro w hSw; (try dsimp only at hSw); go_simp; try with_reducible rfl)
                try simp only [Act.put, List.setIfInBounds_toArray, List.set_cons_zero, List.set_cons_succ]
                refine wpAnyH_take (i := 6) (oi := { dst := some 158, op := Op.call { callee := Callee.builtin Builtin.len, args := #[Operand.tmp 157], argTypes := #[27] }, type := 3, pos := "law.go:231", after := #[{ on := 5, ground := Ground.data }], guard := none }) (v := ?_) rfl (by kernel_rfl) (by kernel_rfl) (by kernel_rfl) (fun _ _ _ h => h) (Or.inl ⟨by rfl, ?hy6⟩) hS0 ?_
                case hy6 => (intro w hSw; (try dsimp only at hSw); go_simp; try with_reducible rfl)
                try simp only [Act.put, List.setIfInBounds_toArray, List.set_cons_zero, List.set_cons_succ]
                refine wpAnyH_take (i := 7) (oi := { dst := some 159, op := Op.move (Operand.tmp 13), type := 3, pos := "law.go:231", after := #[], guard := none }) (v := ?_) rfl (by kernel_rfl) (by kernel_rfl) (by kernel_rfl) (fun _ _ _ h => h) (Or.inl ⟨by rfl, ?hy7⟩) hS0 ?_
                case hy7 => (intro w hSw; (try dsimp only at hSw); go_simp; try with_reducible rfl)
                try simp only [Act.put, List.setIfInBounds_toArray, List.set_cons_zero, List.set_cons_succ]
                refine wpAnyH_take (i := 8) (oi := { dst := some 160, op := Op.indexAddr 64 (Operand.tmp 10) (Operand.tmp 159), type := 0, pos := "law.go:231", after := #[{ on := 7, ground := Ground.data }], guard := none }) (v := ?_) rfl (by kernel_rfl) (by kernel_rfl) (by kernel_rfl) (fun _ _ _ h => h) (Or.inl ⟨by rfl, ?hy8⟩) hS0 ?_
                case hy8 => (intro w hSw; (try dsimp only at hSw); go_simp; try with_reducible rfl)
                try simp only [Act.put, List.setIfInBounds_toArray, List.set_cons_zero, List.set_cons_succ]
                refine wpAnyH_take (i := 9) (oi := { dst := some 161, op := Op.load 3 (Operand.tmp 160), type := 3, pos := "law.go:231", after := #[{ on := 8, ground := Ground.data }], guard := none }) (v := ?_) rfl (by kernel_rfl) (by kernel_rfl) (by kernel_rfl) (fun _ _ _ h => h) (Or.inl ⟨by rfl, ?hy9⟩) hS0 ?_
                case hy9 => (intro w hSw; (try dsimp only at hSw); go_simp; try with_reducible rfl)
                try simp only [Act.put, List.setIfInBounds_toArray, List.set_cons_zero, List.set_cons_succ]
                refine wpAnyH_take (i := 10) (oi := { dst := some 162, op := Op.binOp BinOp.sub 3 (Operand.tmp 158) (Operand.tmp 161) 3, type := 3, pos := "law.go:231", after := #[{ on := 6, ground := Ground.data }, { on := 9, ground := Ground.data }], guard := none }) (v := ?_) rfl (by kernel_rfl) (by kernel_rfl) (by kernel_rfl) (fun _ _ _ h => h) (Or.inl ⟨by rfl, ?hy10⟩) hS0 ?_
                case hy10 => (intro w hSw; (try dsimp only at hSw); go_simp; try with_reducible rfl)
                try simp only [Act.put, List.setIfInBounds_toArray, List.set_cons_zero, List.set_cons_succ]
                refine wpAnyH_ready (rs := [2]) (by kernel_rfl) (by simp) ?_
                refine AllReadyH.cons (o := { dst := some 154, op := Op.call { callee := Callee.value (Operand.func 47), args := #[Operand.tmp 152, Operand.tmp 153], argTypes := #[42, 3] }, type := 3, pos := "law.go:231", after := #[{ on := 0, ground := Ground.data }, { on := 1, ground := Ground.data }], guard := none }) rfl (fun K hK => ?_) ?_
                · go_simp; with_reducible refine (LM.out ()).mono ?_; rintro e w6 ⟨rfl, rfl⟩; go_simp
                  refine hK.out _ _ ?hs11 (fun hS11 => ?_)
                  case hs11 => ((try dsimp only); first | (go_keep; done) | (refine ⟨?_, ?_⟩ <;> (go_keep; done)))
                  clear hK K hS0
                  refine wpAnyH_ready (rs := [11]) (by kernel_rfl) (by simp) ?_
                  refine AllReadyH.cons (o := { dst := some 163, op := Op.binOp BinOp.neq 3 (Operand.tmp 154) (Operand.tmp 162) 3, type := 4, pos := "law.go:231", after := #[{ on := 2, ground := Ground.data }, { on := 10, ground := Ground.data }], guard := none }) rfl (fun K hK => ?_) ?_
                  · go_simp
                    refine hK.out _ _ ?hs12 (fun hS12 => ?_)
                    case hs12 => ((try dsimp only); first | (go_keep; done) | (refine ⟨?_, ?_⟩ <;> (go_keep; done)))
                    clear hK K hS11
                    refine wpAnyH_done (by kernel_rfl) ?_ _
                    go_wp2_with fail
                    go_roundg (60 - (i + 1))
                    case measure => omega
                    case rel => exact ⟨i + 1, _, _, _, _, _, _, _, _, by go_num, by omega, by omega, rfl, by have := H5.out.2; omega, H5.out.1.same ((Turn.refl _ w5).drewd)⟩
                  exact AllReadyH.nil
                exact AllReadyH.nil
      · have X := Lib.hid hR.tr
        clear hR
        go_wp2
        go_ret
        exact ⟨rfl, X.out.below (fun k hk => ⟨hk, fun e => by unfold From at e; omega⟩)⟩
    · have X := Lib.hid hR.tr
      clear hR
      go_wp2
      go_ret
      exact ⟨rfl, X.out.below (fun k hk => ⟨hk, fun e => by unfold From at e; omega⟩)⟩
end Go.Proofs.Ytibmimdlgbhdnaa
