/-
  The walk of EpochPlays: epochs and the document's own, side by side.
-/
import Derived.BigQuiet
import Derived.Test.YtibmimdlgbhdnaaJo
import Derived.Test.YtibmimdlgbhdnaaRefN
namespace Go.Proofs.Ytibmimdlgbhdnaa
open Go.ChangeShapes Go.WideShapes Go.ChangeAt Go.RowKit
set_option linter.unusedVariables false

theorem epo_bad (n : Int) (h : n < 1 ∨ 16 < n) (w : World) : Calls Try.prog 31 #[.int .i64 n] w fun e w' => e = .returned (.pointer none) ∧ w = w' := by
  by_cases h1 : n < 1
  · have t1 : decide (n < 1) = true := by simpa using h1
    go_enter Try.func31, Try.ntmps31
    go_wp2
    go_ret
    exact ⟨rfl, rfl⟩
  · have t1 : decide (n < 1) = false := by simpa using h1
    have h2 : 16 < n := by omega
    have t2 : decide (16 < n) = true := by simpa using h2
    go_enter Try.func31, Try.ntmps31
    go_wp2
    go_ret
    exact ⟨rfl, rfl⟩
def Acts3 (w : World) (b off len : Nat) (K A N : Nat → Int) : Prop := ∀ i, i < len → w.cell? ⟨b, off + i * 3, none⟩ = some (.int .i64 (K i)) ∧ w.cell? ⟨b, off + i * 3 + 1, none⟩ = some (.int .i64 (A i)) ∧ w.cell? ⟨b, off + i * 3 + 2, none⟩ = some (.int .i64 (N i))
def XRel (w : World) (x lb rb ab n cap base len : Nat) (gh : Nat) (v9 : Value) (wr : World) : Prop :=
  ∃ (i : Nat) (now : Int) (P : Nat → Int) (Q : Nat → List (Int × Int × Int)), v9 = .int .i64 (i : Int) ∧ i ≤ len ∧ i ≤ 60 ∧ gh = 60 - i ∧ now ≤ (i : Int) ∧ PinsOk n P ∧ LimOk n i Q ∧ Jo w x lb rb ab n cap base now P Q now P Q wr
theorem calls_drew {f : Nat} {xs : Array Value} {W : World} {v : Value} (h : ∀ d, Calls Try.prog f xs (W.drewN d) fun e w' => e = .returned v ∧ W.drewN d = w') (d : Nat) :
    Calls Try.prog f xs (W.drewN d) (fun e w' => e = Ending.returned v ∧ ∃ m, w' = W.drewN m) := (h d).mono fun e w' ⟨h1, h2⟩ => ⟨h1, d, h2.symm⟩
section
variable {w W : World} {x lb rb ab n cap base : Nat} {n' : Int} {P' : Nat → Int} {Q' : Nat → List (Int × Int × Int)}
/-- Wherever an order was drawn, the same is told. -/
structure Told (x rb : Nat) (a now at_ : Int) (is_ : Bool) (k : Int) (W : World) : Prop where
  p1 : Calls Try.prog 44 #[.pointer (some ⟨x, 0, none⟩), .int .i64 a] W fun e w' => e = .returned (.tuple #[.int .i64 at_, .bool is_]) ∧ W = w'
  p2 : Calls Try.prog 45 #[.pointer (some ⟨rb, 0, none⟩), .int .i64 a] W fun e w' => e = .returned (.tuple #[.int .i64 at_, .bool is_]) ∧ W = w'
  c0 : W.cell? ⟨rb, 0, none⟩ = some (.int .i64 now)
  q46 : ∀ d, Calls Try.prog 46 #[.pointer (some ⟨x, 0, none⟩)] (W.drewN d) (fun e w' => e = Ending.returned (.int .i64 now) ∧ ∃ m, w' = W.drewN m)
  q47 : ∀ d, Calls Try.prog 47 #[.pointer (some ⟨x, 0, none⟩), .int .i64 a] (W.drewN d) (fun e w' => e = Ending.returned (.int .i64 k) ∧ ∃ m, w' = W.drewN m)
  q48 : ∀ d, Calls Try.prog 48 #[.pointer (some ⟨rb, 0, none⟩), .int .i64 a] (W.drewN d) (fun e w' => e = Ending.returned (.int .i64 k) ∧ ∃ m, w' = W.drewN m)
theorem Jo.told (h : Jo w x lb rb ab n cap base n' P' Q' n' P' Q' W) (hp : PinsOk n P') (a : Int) : ∃ at_ is_ k, Told x rb a n' at_ is_ k W := by
  obtain ⟨at_, is_, k, H⟩ := jo_asks (w0 := w) (x := x) (lb := lb) (rb := rb) (ab := ab) (n := n) (cap := cap) (base := base) (now := n') (P := P') (Q := Q') hp a
  have h0 := H W h
  have hd := fun d => H (W.drewN d) (h.same ((Turn.refl _ W).drewN d))
  exact ⟨at_, is_, k, h0.p1, h0.p2, h0.now2, calls_drew fun d => (hd d).now1, calls_drew fun d => (hd d).l1, calls_drew fun d => (hd d).l2⟩
end

set_option maxRecDepth 100000 in
set_option maxHeartbeats 8000000 in
theorem plays_walk (a0 : Int) (ad : Option Addr) (b off len cap0 : Nat) (had : len = 0 ∨ ad = some ⟨b, off, none⟩) (K A2 N2 : Nat → Int) (w : World) (hl : Acts3 w b off len K A2 N2) (hb : 0 < len → b < w.heap.size) (hlen : len ≤ 9223372036854775807) :
    Calls Try.prog 8 #[.int .i64 a0, .slice ad len cap0] w fun e w' => e = .returned (.bool true) ∧ Below w.heap.size w w' := by
  obtain ⟨S, s0, s5, HS⟩ := rest_epo a0 5 (by decide) (by decide)
  obtain ⟨n, hn⟩ : ∃ n : Nat, 1 + S = (n : Int) := ⟨(1 + S).toNat, by omega⟩
  have n1 : 1 ≤ n := by omega
  have n5 : n ≤ 5 := by omega
  have HS := Lib.hid HS
  have AW := Lib.hid (epo_awake w)
  have AD := Lib.hid had
  clear had
  go_enter Try.func8, Try.ntmps8
  go_wp2_with fail
  refine AW.out.mono ?_
  rintro e w1 ⟨rfl, b1⟩
  have B1 := Lib.hid b1
  clear b1
  go_wp2_with fail
  refine (HS.out _).mono ?_
  rintro e w2 ⟨rfl, rfl⟩
  clear s0 s5
  have H0 := Lib.hid (epo_new n n1 (by omega) w1)
  go_wp2_with fail
  refine H0.out.mono ?_
  rintro e w2 ⟨rfl, h2, b2, z2⟩
  have E2 := Lib.hid (And.intro h2 (And.intro b2 z2))
  clear h2 b2 z2 H0
  have H1 := Lib.hid (ref_new n n1 n5 w2)
  go_wp2_with fail
  refine H1.out.mono ?_
  rintro e w3 ⟨ab, cap, rfl, h3, hab, t3⟩
  obtain ⟨h2, b2, z2⟩ := E2.out
  have z1 := B1.out.size
  have E3 := (h2.keep t3 (fun _ _ _ => id)).rebase (b := w3.heap.size) (Nat.le_trans (by omega) t3.size) (Nat.le_refl _) (fun _ _ => ⟨rfl, rfl⟩)
  have L : Lay w (w1.heap.size + 1) w1.heap.size w2.heap.size ab w3.heap.size := ⟨by omega, by omega, by omega, by omega, E3.bx, E3.bl, h3.br, h3.ba, by omega, by omega, by omega, by omega⟩
  have R0 : XRel w (w1.heap.size + 1) w1.heap.size w2.heap.size ab n cap w3.heap.size len 60 (.int .i64 0) w3 :=
    ⟨0, 0, _, _, rfl, Nat.zero_le _, Nat.zero_le _, rfl, Int.le_refl _, fun a _ => .inl rfl, fun a _ => Nat.le_refl _, ⟨_, _, E3, h3⟩, (B1.out.trans (b2.mono z1)).trans (t3.below (fun k hk => ⟨by have := b2.size; omega, id⟩))⟩
  have L := Lib.hid L
  have HX := Lib.hid (fun wr (ht : Below w.heap.size w wr) i (hi : i < len) => show wr.cell? ⟨b, off + i * 3, none⟩ = some (.int .i64 (K i)) ∧ wr.cell? ⟨b, off + i * 3 + 1, none⟩ = some (.int .i64 (A2 i)) ∧ wr.cell? ⟨b, off + i * 3 + 2, none⟩ = some (.int .i64 (N2 i)) from by
    obtain ⟨q0, q1, q2⟩ := hl i hi
    have hbw := hb (by omega)
    exact ⟨(ht.cell (p := ⟨b, off + i * 3, none⟩) hbw).trans q0, (ht.cell (p := ⟨b, off + i * 3 + 1, none⟩) hbw).trans q1, (ht.cell (p := ⟨b, off + i * 3 + 2, none⟩) hbw).trans q2⟩)
  clear h2 b2 z2 z1 hl hb H1 h3 hab t3 E3 E2 B1
  go_wp2_with fail
  generalize w3.heap.size = base at *
  generalize w2.heap.size = rb at *
  generalize w1.heap.size + 1 = x at *
  generalize w1.heap.size = lb at *
  go_loopg [9] 60 (fun gh v9 wr => XRel w x lb rb ab n cap base len gh v9 wr)
  case atStart => exact R0
  case round =>
    clear R0
    obtain ⟨i, now, P, Q, rfl, hi, hi60, hg, hnow, hp, hq, hJ⟩ := hrel
    by_cases hin : i < len ∧ i < 60
    · obtain ⟨hil, hi6⟩ := hin
      obtain rfl := AD.out.resolve_left (by omega)
      obtain ⟨R, r0, r1, HR⟩ := rest_epo (A2 i) ((n : Int) + 2) (by omega) (by omega)
      have HR := Lib.hid HR
      obtain ⟨kk, k0, k6, HK⟩ := rest_epo (K i) 6 (by decide) (by decide)
      have HK := Lib.hid HK
      obtain ⟨x0, x1, x2⟩ := HX.out wr hJ.bel i hil
      have t1 : decide ((i : Int) < (len : Int)) = true := by simp; omega
      have t2 : decide ((i : Int) < 60) = true := by simp; omega
      have hi6' : (i : Int) < 60 := by omega
      have hil' : (i : Int) < (len : Int) := by omega
      have hJ1 := hJ.same ((Turn.refl _ wr).alloc (.cells #[.int .i64 (K i), .int .i64 (A2 i), .int .i64 (N2 i)] 47))
      have hkk : kk = 0 ∨ kk = 1 ∨ kk = 2 ∨ kk = 3 ∨ kk = 4 ∨ kk = 5 := by omega
      have s1 : IntKind.i64.wrap ((n : Int) + 2) = (n : Int) + 2 := IntWalk.i64_in _ (by omega)
      have s2 : IntKind.i64.wrap (R - 1) = R - 1 := IntWalk.i64_in _ (by omega)
      have d0 := World.cell?_alloc_new wr #[.int .i64 (K i), .int .i64 (A2 i), .int .i64 (N2 i)] 47 0
      have d1 := World.cell?_alloc_new wr #[.int .i64 (K i), .int .i64 (A2 i), .int .i64 (N2 i)] 47 1
      have d2 := World.cell?_alloc_new wr #[.int .i64 (K i), .int .i64 (A2 i), .int .i64 (N2 i)] 47 2
      simp only [List.getElem?_toArray, List.getElem?_cons_zero, List.getElem?_cons_succ] at d0 d1 d2
      have G := Lib.hid (And.intro hnow (And.intro hp (And.intro hq hg)))
      have hww : w.heap.size ≤ wr.heap.size := hJ.bel.size
      have hJ0 := Lib.hid hJ
      clear hJ r0 r1 k0 k6 hnow hp hq hg
      rcases hkk with rfl | rfl | rfl | rfl | rfl | rfl
      · obtain ⟨ok, P', po, pp⟩ := pin_pair L.out hJ1 G.out.2.1 (R - 1)
        have PO := Lib.hid po
        have LO := Lib.hid (show LimOk n (i + 1) Q from fun a ha => by have := G.out.2.2.1 a ha; omega)
        have PP := Lib.hid pp
        clear hJ1 pp po
        go_wp2_with fail
        generalize wr.alloc (.cells #[.int .i64 (K i), .int .i64 (A2 i), .int .i64 (N2 i)] 47) = W1 at *
        generalize wr.heap.size = sb at *
        refine (HR.out _).mono ?_
        rintro e w4 ⟨rfl, rfl⟩
        go_wp2_with fail
        refine (HK.out _).mono ?_
        rintro e w4 ⟨rfl, rfl⟩
        clear x0 x1 x2
        go_wp2_with fail
        refine PP.out.1.mono ?_
        rintro e W2 ⟨rfl, j2⟩
        have J2 := Lib.hid j2
        have PD := Lib.hid (PP.out.2 _ j2)
        clear j2 PP
        go_wp2_with fail
        refine PD.out.mono ?_
        rintro e W3 ⟨rfl, j3⟩
        have J := Lib.hid j3
        clear j3 PD J2
        have A0 := Lib.hid (J.out.told PO.out (R - 1))
        clear d0 d1 d2
        obtain ⟨at_, is_, k, A1⟩ := A0.out
        have A1 := Lib.hid A1
        have c0 := A1.out.c0
        have e1 : (ok != ok) = false := by cases ok <;> rfl
        have e2 : (now != now) = false := by simp
        have e3 : (at_ != at_) = false := by simp
        have e4 : (is_ != is_) = false := by cases is_ <;> rfl
        have e5 : (k != k) = false := by simp
        go_wp2_with fail
        refine A1.out.p1.mono ?_
        rintro e W8 ⟨rfl, rfl⟩
        go_wp2_with fail
        refine A1.out.p2.mono ?_
        rintro e W8 ⟨rfl, rfl⟩
        go_wp2_with fail
        go_quiet (first | (go_at_call 46; exact A1.out.q46 _) | (go_at_call 47; exact A1.out.q47 _) | (go_at_call 48; exact A1.out.q48 _))
        go_wp2_with fail
        go_roundg (60 - (i + 1))
        case measure => have := G.out.2.2.2; omega
        case rel => exact ⟨i + 1, _, _, _, by go_num, by omega, by omega, rfl, by have := G.out.1; omega, PO.out, LO.out, J.out.same ((Turn.refl _ _).drewN _)⟩
      · obtain ⟨ok, P', po, pp⟩ := unpin_pair L.out hJ1 G.out.2.1 (R - 1)
        have PO := Lib.hid po
        have LO := Lib.hid (show LimOk n (i + 1) Q from fun a ha => by have := G.out.2.2.1 a ha; omega)
        have PP := Lib.hid pp
        clear hJ1 pp po
        go_wp2_with fail
        generalize wr.alloc (.cells #[.int .i64 (K i), .int .i64 (A2 i), .int .i64 (N2 i)] 47) = W1 at *
        generalize wr.heap.size = sb at *
        refine (HR.out _).mono ?_
        rintro e w4 ⟨rfl, rfl⟩
        go_wp2_with fail
        refine (HK.out _).mono ?_
        rintro e w4 ⟨rfl, rfl⟩
        clear x0 x1 x2
        go_wp2_with fail
        refine PP.out.1.mono ?_
        rintro e W2 ⟨rfl, j2⟩
        have J2 := Lib.hid j2
        have PD := Lib.hid (PP.out.2 _ j2)
        clear j2 PP
        go_wp2_with fail
        refine PD.out.mono ?_
        rintro e W3 ⟨rfl, j3⟩
        have J := Lib.hid j3
        clear j3 PD J2
        have A0 := Lib.hid (J.out.told PO.out (R - 1))
        clear d0 d1 d2
        obtain ⟨at_, is_, k, A1⟩ := A0.out
        have A1 := Lib.hid A1
        have c0 := A1.out.c0
        have e1 : (ok != ok) = false := by cases ok <;> rfl
        have e2 : (now != now) = false := by simp
        have e3 : (at_ != at_) = false := by simp
        have e4 : (is_ != is_) = false := by cases is_ <;> rfl
        have e5 : (k != k) = false := by simp
        go_wp2_with fail
        refine A1.out.p1.mono ?_
        rintro e W8 ⟨rfl, rfl⟩
        go_wp2_with fail
        refine A1.out.p2.mono ?_
        rintro e W8 ⟨rfl, rfl⟩
        go_wp2_with fail
        go_quiet (first | (go_at_call 46; exact A1.out.q46 _) | (go_at_call 47; exact A1.out.q47 _) | (go_at_call 48; exact A1.out.q48 _))
        go_wp2_with fail
        go_roundg (60 - (i + 1))
        case measure => have := G.out.2.2.2; omega
        case rel => exact ⟨i + 1, _, _, _, by go_num, by omega, by omega, rfl, by have := G.out.1; omega, PO.out, LO.out, J.out.same ((Turn.refl _ _).drewN _)⟩
      · obtain ⟨ok, Q', lo, pp⟩ := retire_pair L.out hJ0.out (.cells #[.int .i64 (K i), .int .i64 (A2 i), .int .i64 (N2 i)] 47) G.out.2.2.1 (by omega) (R - 1) (N2 i) 0
        have LO := Lib.hid lo
        have PO := Lib.hid G.out.2.1
        have PP := Lib.hid pp
        clear hJ1 pp lo
        go_wp2_with fail
        generalize wr.alloc (.cells #[.int .i64 (K i), .int .i64 (A2 i), .int .i64 (N2 i)] 47) = W1 at *
        generalize wr.heap.size = sb at *
        refine (HR.out _).mono ?_
        rintro e w4 ⟨rfl, rfl⟩
        go_wp2_with fail
        refine (HK.out _).mono ?_
        rintro e w4 ⟨rfl, rfl⟩
        clear x0 x1 x2
        go_wp2_with fail
        refine PP.out.1.mono ?_
        rintro e W2 ⟨rfl, j2, hc2⟩
        have d2 : W2.cell? ⟨sb, 2, none⟩ = _ := hc2 2 _ d2
        have PD := Lib.hid (PP.out.2 _ j2)
        clear j2 PP hc2 d0 d1
        go_wp2_with fail
        refine PD.out.mono ?_
        rintro e W3 ⟨rfl, j3⟩
        have J := Lib.hid j3
        clear j3 PD
        have A0 := Lib.hid (J.out.told PO.out (R - 1))
        clear d2
        obtain ⟨at_, is_, k, A1⟩ := A0.out
        have A1 := Lib.hid A1
        have c0 := A1.out.c0
        have e1 : (ok != ok) = false := by cases ok <;> rfl
        have e2 : (now != now) = false := by simp
        have e3 : (at_ != at_) = false := by simp
        have e4 : (is_ != is_) = false := by cases is_ <;> rfl
        have e5 : (k != k) = false := by simp
        go_wp2_with fail
        refine A1.out.p1.mono ?_
        rintro e W8 ⟨rfl, rfl⟩
        go_wp2_with fail
        refine A1.out.p2.mono ?_
        rintro e W8 ⟨rfl, rfl⟩
        go_wp2_with fail
        go_quiet (first | (go_at_call 46; exact A1.out.q46 _) | (go_at_call 47; exact A1.out.q47 _) | (go_at_call 48; exact A1.out.q48 _))
        go_wp2_with fail
        go_roundg (60 - (i + 1))
        case measure => have := G.out.2.2.2; omega
        case rel => exact ⟨i + 1, _, _, _, by go_num, by omega, by omega, rfl, by have := G.out.1; omega, PO.out, LO.out, J.out.same ((Turn.refl _ _).drewN _)⟩
      · obtain ⟨ok, now', hn', pp⟩ := advance_pair L.out hJ1 G.out.2.1 n1 (by have := G.out.1; omega)
        have LO := Lib.hid (show LimOk n (i + 1) Q from fun a ha => by have := G.out.2.2.1 a ha; omega)
        have PO := Lib.hid G.out.2.1
        have NN := Lib.hid hn'
        have PP := Lib.hid pp
        clear hJ1 pp hn'
        go_wp2_with fail
        generalize wr.alloc (.cells #[.int .i64 (K i), .int .i64 (A2 i), .int .i64 (N2 i)] 47) = W1 at *
        generalize wr.heap.size = sb at *
        refine (HR.out _).mono ?_
        rintro e w4 ⟨rfl, rfl⟩
        go_wp2_with fail
        refine (HK.out _).mono ?_
        rintro e w4 ⟨rfl, rfl⟩
        clear x0 x1 x2
        go_wp2_with fail
        refine PP.out.1.mono ?_
        rintro e W2 ⟨rfl, j2⟩
        have J2 := Lib.hid j2
        have PD := Lib.hid (PP.out.2 _ j2)
        clear j2 PP
        go_wp2_with fail
        refine PD.out.mono ?_
        rintro e W3 ⟨rfl, j3⟩
        have J := Lib.hid j3
        clear j3 PD J2
        have A0 := Lib.hid (J.out.told PO.out (R - 1))
        clear d0 d1 d2
        obtain ⟨at_, is_, k, A1⟩ := A0.out
        have A1 := Lib.hid A1
        have c0 := A1.out.c0
        have e1 : (ok != ok) = false := by cases ok <;> rfl
        have e2 : (now' != now') = false := by simp
        have e3 : (at_ != at_) = false := by simp
        have e4 : (is_ != is_) = false := by cases is_ <;> rfl
        have e5 : (k != k) = false := by simp
        go_wp2_with fail
        refine A1.out.p1.mono ?_
        rintro e W8 ⟨rfl, rfl⟩
        go_wp2_with fail
        refine A1.out.p2.mono ?_
        rintro e W8 ⟨rfl, rfl⟩
        go_wp2_with fail
        go_quiet (first | (go_at_call 46; exact A1.out.q46 _) | (go_at_call 47; exact A1.out.q47 _) | (go_at_call 48; exact A1.out.q48 _))
        go_wp2_with fail
        go_roundg (60 - (i + 1))
        case measure => have := G.out.2.2.2; omega
        case rel => exact ⟨i + 1, _, _, _, by go_num, by omega, by omega, rfl, by have := G.out.1; have := NN.out; omega, PO.out, LO.out, J.out.same ((Turn.refl _ _).drewN _)⟩
      · obtain ⟨ok, now', hn', pp⟩ := advance_pair L.out hJ1 G.out.2.1 n1 (by have := G.out.1; omega)
        have LO := Lib.hid (show LimOk n (i + 1) Q from fun a ha => by have := G.out.2.2.1 a ha; omega)
        have PO := Lib.hid G.out.2.1
        have NN := Lib.hid hn'
        have PP := Lib.hid pp
        clear hJ1 pp hn'
        go_wp2_with fail
        generalize wr.alloc (.cells #[.int .i64 (K i), .int .i64 (A2 i), .int .i64 (N2 i)] 47) = W1 at *
        generalize wr.heap.size = sb at *
        refine (HR.out _).mono ?_
        rintro e w4 ⟨rfl, rfl⟩
        go_wp2_with fail
        refine (HK.out _).mono ?_
        rintro e w4 ⟨rfl, rfl⟩
        clear x0 x1 x2
        go_wp2_with fail
        refine PP.out.1.mono ?_
        rintro e W2 ⟨rfl, j2⟩
        have J2 := Lib.hid j2
        have PD := Lib.hid (PP.out.2 _ j2)
        clear j2 PP
        go_wp2_with fail
        refine PD.out.mono ?_
        rintro e W3 ⟨rfl, j3⟩
        have J := Lib.hid j3
        clear j3 PD J2
        have A0 := Lib.hid (J.out.told PO.out (R - 1))
        clear d0 d1 d2
        obtain ⟨at_, is_, k, A1⟩ := A0.out
        have A1 := Lib.hid A1
        have c0 := A1.out.c0
        have e1 : (ok != ok) = false := by cases ok <;> rfl
        have e2 : (now' != now') = false := by simp
        have e3 : (at_ != at_) = false := by simp
        have e4 : (is_ != is_) = false := by cases is_ <;> rfl
        have e5 : (k != k) = false := by simp
        go_wp2_with fail
        refine A1.out.p1.mono ?_
        rintro e W8 ⟨rfl, rfl⟩
        go_wp2_with fail
        refine A1.out.p2.mono ?_
        rintro e W8 ⟨rfl, rfl⟩
        go_wp2_with fail
        go_quiet (first | (go_at_call 46; exact A1.out.q46 _) | (go_at_call 47; exact A1.out.q47 _) | (go_at_call 48; exact A1.out.q48 _))
        go_wp2_with fail
        go_roundg (60 - (i + 1))
        case measure => have := G.out.2.2.2; omega
        case rel => exact ⟨i + 1, _, _, _, by go_num, by omega, by omega, rfl, by have := G.out.1; have := NN.out; omega, PO.out, LO.out, J.out.same ((Turn.refl _ _).drewN _)⟩
      · obtain ⟨RL, Q', lo, hl, pp⟩ := ripe_pair L.out hJ1 G.out.2.2.1 (by omega) (R - 1)
        have LO := Lib.hid lo
        have PO := Lib.hid G.out.2.1
        have PP := Lib.hid pp
        clear hJ1 pp lo
        go_wp2_with fail
        generalize wr.alloc (.cells #[.int .i64 (K i), .int .i64 (A2 i), .int .i64 (N2 i)] 47) = W1 at *
        generalize wr.heap.size = sb at *
        refine (HR.out _).mono ?_
        rintro e w4 ⟨rfl, rfl⟩
        go_wp2_with fail
        refine (HK.out _).mono ?_
        rintro e w4 ⟨rfl, rfl⟩
        clear x0 x1 x2
        go_wp2_with fail
        refine PP.out.1.mono ?_
        rintro e W2 ⟨v1, rfl, o1, j2, z2⟩
        have PD := Lib.hid (PP.out.2 _ _ j2 o1 z2)
        clear o1 j2 z2 PP
        go_wp2_with fail
        refine PD.out.mono ?_
        rintro e W3 ⟨v2, rfl, o2, o1, j3⟩
        have SM := Lib.hid ((same_any o1 o2 rfl rfl (by omega)).mono (fun e w' h => show e = .returned (.bool true) ∧ Turn (fun _ => False) W3 w' from ⟨by simpa using h.1, h.2⟩))
        have J3 := Lib.hid j3
        clear o1 o2 j3 PD hl
        go_wp2_with fail
        refine SM.out.mono ?_
        rintro e W4 ⟨rfl, t4⟩
        obtain ⟨ok, hok⟩ : ∃ ok, ok = true := ⟨_, rfl⟩
        have J := Lib.hid (J3.out.same t4)
        clear t4 J3 SM
        have A0 := Lib.hid (J.out.told PO.out (R - 1))
        clear d0 d1 d2
        obtain ⟨at_, is_, k, A1⟩ := A0.out
        have A1 := Lib.hid A1
        have c0 := A1.out.c0
        have e1 : (ok != ok) = false := by cases ok <;> rfl
        have e2 : (now != now) = false := by simp
        have e3 : (at_ != at_) = false := by simp
        have e4 : (is_ != is_) = false := by cases is_ <;> rfl
        have e5 : (k != k) = false := by simp
        go_wp2_with fail
        refine A1.out.p1.mono ?_
        rintro e W8 ⟨rfl, rfl⟩
        go_wp2_with fail
        refine A1.out.p2.mono ?_
        rintro e W8 ⟨rfl, rfl⟩
        go_wp2_with fail
        go_quiet (first | (go_at_call 46; exact A1.out.q46 _) | (go_at_call 47; exact A1.out.q47 _) | (go_at_call 48; exact A1.out.q48 _))
        go_wp2_with fail
        go_roundg (60 - (i + 1))
        case measure => have := G.out.2.2.2; omega
        case rel => exact ⟨i + 1, _, _, _, by go_num, by omega, by omega, rfl, by have := G.out.1; omega, PO.out, LO.out, J.out.same ((Turn.refl _ _).drewN _)⟩
    · have NI := Lib.hid hin
      have J0 := Lib.hid hJ
      clear hin hi hi60 hg hJ hnow hp hq
      go_upto_region 6 with fail
      go_cut [33] (fun v33 wx => v33 = .bool false ∧ wx = wr)
      case first =>
        by_cases hil : i < len
        · have t1 : decide ((i : Int) < (len : Int)) = true := by simp; omega
          have t2 : decide ((i : Int) < 60) = false := by have := NI.out; simp; omega
          go_wp2_with fail
          go_meet
          case rel => exact ⟨rfl, rfl⟩
        · have t1 : decide ((i : Int) < (len : Int)) = false := by simp; omega
          go_wp2_with fail
          go_meet
          case rel => exact ⟨rfl, rfl⟩
      case rest =>
        obtain ⟨rfl, rfl⟩ := hcut
        by_cases hr : 1 ≤ a0 ∧ a0 ≤ 16
        · obtain ⟨m, rfl⟩ : ∃ m : Nat, a0 = (m : Int) := ⟨a0.toNat, by omega⟩
          have C := Lib.hid (epo_new m (by omega) (by omega) wc)
          have u1 : (1 : Int) ≤ (m : Int) := hr.1
          have u2 : (m : Int) ≤ 16 := hr.2
          have t1 : decide ((1 : Int) ≤ (m : Int)) = true := by simpa using u1
          have t2 : decide ((m : Int) ≤ 16) = true := by simpa using u2
          clear hr
          go_wp2_with fail
          refine C.out.mono ?_
          rintro e w9 ⟨rfl, _, b9, _⟩
          have B9 := Lib.hid b9
          clear b9
          go_wp2_with fail
          go_ret
          exact ⟨rfl, J0.out.bel.trans (B9.out.mono J0.out.bel.size)⟩
        · have C := Lib.hid (epo_bad a0 (by omega) wc)
          by_cases u1 : 1 ≤ a0
          · have u2 : ¬ a0 ≤ 16 := fun h => hr ⟨u1, h⟩
            have t1 : decide ((1 : Int) ≤ a0) = true := by simpa using u1
            have t2 : decide (a0 ≤ 16) = false := by simpa using u2
            clear hr
            go_wp2_with fail
            refine C.out.mono ?_
            rintro e w9 ⟨rfl, rfl⟩
            go_wp2_with fail
            go_ret
            exact ⟨rfl, J0.out.bel⟩
          · have t1 : decide ((1 : Int) ≤ a0) = false := by simpa using u1
            clear hr
            go_wp2_with fail
            refine C.out.mono ?_
            rintro e w9 ⟨rfl, rfl⟩
            go_wp2_with fail
            go_ret
            exact ⟨rfl, J0.out.bel⟩
end Go.Proofs.Ytibmimdlgbhdnaa
