/-
  The walk of PredCounts: a count is how many events a set has, a field that of the last one.
-/
import Derived.Test.YtjfbjkgppnhaoaaPArgs
import Derived.Laws.BitsLemmas
namespace Go.Proofs.Ytjfbjkgppnhaoaa
open Go.ChangeShapes Go.WideShapes Go.ChangeAt Go.RowKit
set_option linter.unusedVariables false

theorem and3 (n : Int) : bits .and .i64 n 3 = n % 4 := by
  have h3 : (BitVec.ofInt 64 3).toNat = 2 ^ 2 - 1 := by decide
  have key : (BitVec.ofInt 64 n &&& BitVec.ofInt 64 3).toNat = (n % ((2 ^ 64 : Nat) : Int)).toNat % 2 ^ 2 := by
    rw [BitVec.toNat_and, BitVec.toNat_ofInt, h3, Nat.and_two_pow_sub_one_eq_mod]
  show IntKind.i64.wrap ((BitVec.ofInt 64 n &&& BitVec.ofInt 64 3).toNat : Nat) = n % 4
  rw [key, IntKind.wrap_i64]
  omega

def cntCodes : Nat → List Cd
  | 0 => [⟨6, 0, 0, 0⟩]
  | i + 1 => cntCodes i ++ [⟨8, 0, 0, (i : Int)⟩, ⟨1, 0, 0, 0⟩]
def cntSum (v : Env) : Nat → Int
  | 0 => 0
  | i + 1 => cntSum v i + v.cnt (i : Int)
theorem cntCodes_len : ∀ i, (cntCodes i).length = 1 + 2 * i
  | 0 => rfl
  | i + 1 => by
    rw [cntCodes, List.length_append, cntCodes_len i]
    simp
    omega
theorem cntSum_le {v : Env} (h : ∀ p, 0 ≤ v.cnt p ∧ v.cnt p ≤ 1000) : ∀ i, 0 ≤ cntSum v i ∧ cntSum v i ≤ 1000 * (i : Int)
  | 0 => ⟨Int.le_refl _, by simp [cntSum]⟩
  | i + 1 => by
    have := cntSum_le h i
    have := h (i : Int)
    rw [cntSum]
    constructor <;> omega
theorem cntCodes_eval {v : Env} (h : ∀ p, 0 ≤ v.cnt p ∧ v.cnt p ≤ 1000) : ∀ i, i ≤ 10 → evalSt v (cntCodes i) [] = some [cntSum v i]
  | 0, _ => rfl
  | i + 1, hi => by
    have b := cntSum_le h i
    have c := h (i : Int)
    rw [cntCodes, eval_app, cntCodes_eval h i (by omega)]
    show (some [wrap64 (cntSum v i + v.cnt (i : Int))] : Option (List Int)) = _
    rw [cntSum]
    congr 2
    unfold wrap64
    omega
theorem EnvAt.cnt_le {w : World} {a : Option Addr} {m : Nat} {v : Env} (h : EnvAt w a m v) (p : Int) : 0 ≤ v.cnt p ∧ v.cnt p ≤ 1000 := by
  by_cases hp : p < 0 ∨ (m : Int) ≤ p
  · rw [h.out p hp]
    decide
  · obtain ⟨k, rfl⟩ : ∃ k : Nat, p = (k : Int) := ⟨p.toNat, by omega⟩
    obtain ⟨g, ea, n, c, _, _, e3, e4⟩ := h.at_ k (by omega)
    have := e4.le
    rw [e3]
    omega
theorem eval_is {w : World} {ad a : Option Addr} {m n : Nat} {v : Env} {l : List Cd} {x : Int} (hE : EnvAt w a m v) (hC : CodesAt w ad l) (hn : l.length = n) (hl : n ≤ 100) (hx : evalCd v l = some x) (cap cap2 : Nat) :
    Calls Try.prog 23 #[.slice ad n cap, .slice a m cap2] w fun e w' => e = .returned (.tuple #[.int .i64 x, .bool true]) ∧ Below w.heap.size w w' := by
  subst hn
  refine (eval_any hE hC hl).mono fun e w' h => ?_
  unfold EvPost at h
  rw [hx] at h
  exact h
theorem eval_no {w : World} {ad a : Option Addr} {m n : Nat} {v : Env} {l : List Cd} (hE : EnvAt w a m v) (hC : CodesAt w ad l) (hn : l.length = n) (hl : n ≤ 100) (hx : evalCd v l = none) (cap cap2 : Nat) :
    Calls Try.prog 23 #[.slice ad n cap, .slice a m cap2] w fun e w' => e = .returned (.tuple #[.int .i64 0, .bool false]) ∧ Below w.heap.size w w' := by
  subst hn
  refine (eval_any hE hC hl).mono fun e w' h => ?_
  unfold EvPost at h
  rw [hx] at h
  exact h
theorem own_new54 (w : World) (c : Cd) : (w.alloc (.cells (ccell c).toArray 54)).ownsRow w.heap.size 54 5 (.slice (some ⟨w.heap.size, 0, none⟩) 1 1) 1 (ccells [c]) :=
  ⟨rfl, .inr ⟨w.heap.size, 1, (ccell c).toArray, rfl, Nat.le_refl _, heap_alloc_new w _, Nat.le_refl _, by decide, rfl, rfl⟩⟩
def CtRel (W : World) (env : Env) (m : Nat) (gh : Nat) (v9 v10 v11 : Value) (wr : World) : Prop :=
  ∃ i : Nat, v11 = .int .i64 (i : Int) ∧ i ≤ m ∧ gh = m - i ∧ v10 = .int .i64 (cntSum env i) ∧ wr.ownsRow W.heap.size 54 5 v9 (cntCodes i).length (ccells (cntCodes i)) ∧ Below W.heap.size W wr

set_option maxRecDepth 100000 in
set_option maxHeartbeats 8000000 in
theorem counts_walk (a0 : Option Addr) (len cap : Nat) (at_ field : Int) (w : World) (hrows : RowsIn w a0 len) :
    Calls Try.prog 7 #[.slice a0 len cap, .int .i64 at_, .int .i64 field] w fun e w' => e = .returned (.bool true) ∧ Below w.heap.size w w' := by
  obtain ⟨i0, hi1, hz0, hz1, hz2⟩ := info_parts info54
  have AW := Lib.hid (pred_awake w)
  have HR := Lib.hid hrows
  clear hrows
  go_enter Try.func7, Try.ntmps7
  go_wp2_with fail
  refine AW.out.mono ?_
  rintro e w1 ⟨rfl, b1⟩
  have SS := Lib.hid (sets_any HR.out b1 cap)
  have B1 := Lib.hid b1
  clear b1
  go_wp2_with fail
  refine SS.out.mono ?_
  rintro e w2 ⟨v, us, ls, rfl, hs, b2⟩
  obtain ⟨a, c2, rfl, hE⟩ := hs.env
  have m4 := hs.m4
  have B2 := Lib.hid ((B1.out).trans (b2.mono B1.out.size))
  have hEn := Lib.hid hE
  generalize envOf ls = env at hE hEn
  generalize us.length = m at *
  have R0 : CtRel w2 env m m (.slice (some ⟨w2.heap.size, 0, none⟩) 1 1) (.int .i64 0) (.int .i64 0) (w2.alloc (.cells #[.int .i64 6, .int .i64 0, .string ⟨#[]⟩, .int .i64 0, .int .i64 0] 54)) :=
    ⟨0, rfl, Nat.zero_le _, rfl, rfl, own_new54 w2 ⟨6, 0, 0, 0⟩, (Below.refl _ w2).alloc (Nat.le_refl _) _⟩
  clear b2 hs hE SS
  go_wp2_with fail
  generalize w2.alloc (.cells #[.int .i64 6, .int .i64 0, .string ⟨#[]⟩, .int .i64 0, .int .i64 0] 54) = w3 at *
  go_loopg [9, 10, 11] m (fun gh v9 v10 v11 wr => CtRel w2 env m gh v9 v10 v11 wr)
  case atStart => exact R0
  case round =>
    clear R0
    obtain ⟨i, rfl, him, hg, rfl, hrow, hb⟩ := hrel
    obtain ⟨o9, c9, rfl, s9⟩ := prow_slice hrow
    have hE3 := hEn.out.keep hb
    have bd := cntSum_le hE3.cnt_le i
    by_cases hil : i < m
    · obtain ⟨g, ea, n, c, rfl, hc0, hcnt, hset⟩ := hEn.out.at_ i hil
      have hcell := (hb.cell (p := ⟨g, i, none⟩) (block_lt_of_cell hc0)).trans hc0
      have HC := Lib.hid hc0
      clear hc0
      have hnle := hset.le
      have nl := cntCodes_len i
      have XX := Lib.hid (And.intro hrow (And.intro hb hcnt))
      have i4 : (i : Int) < 4 := by omega
      have z0 : w2.heap.size ≤ (wr.alloc (.cells #[.int .i64 8, .int .i64 0, .string ⟨#[]⟩, .int .i64 0, .int .i64 (i : Int), .int .i64 1, .int .i64 0, .string ⟨#[]⟩, .int .i64 0, .int .i64 0] 54)).heap.size := by rw [World.size_alloc]; have := hb.size; omega
      have nle : (cntCodes i).length ≤ 9 := by omega
      generalize hcs : cntSum env i = cs at bd ⊢
      have XS := Lib.hid hcs
      clear hcs
      generalize hcc : (cntCodes i).length = cl at *
      have XC := Lib.hid hcc
      have hgb : ∀ w', (wr.alloc (.cells #[.int .i64 8, .int .i64 0, .string ⟨#[]⟩, .int .i64 0, .int .i64 (i : Int), .int .i64 1, .int .i64 0, .string ⟨#[]⟩, .int .i64 0, .int .i64 0] 54)).grownBy w' (Value.slice o9 cl c9).ownBlock → Below w2.heap.size w2 w' := fun w' hg' =>
        hb.trans ((((Below.refl w2.heap.size wr).alloc hb.size _)).grown hg' z0 (fun j ej => (prow_lt XX.out.1 ej).1))
      have HGB := Lib.hid hgb
      clear hE3 hset nl hcc hcnt hgb
      go_wp2_with (at_builtin; refine wpList_append_lies _ rfl (.tmp 31) (.tmp 35) 39 rfl w2.heap.size 54 i0 _ 5 48 Try.underlying39 hi1 hz0 hz1 hz2 rfl (by decide) (.slice o9 cl c9) cl (ccells (cntCodes i)) rfl (hrow.alloc _) ⟨wr.heap.size, 0, none⟩ 2 2 [.int .i64 8, .int .i64 0, .string ⟨#[]⟩, .int .i64 0, .int .i64 (i : Int), .int .i64 1, .int .i64 0, .string ⟨#[]⟩, .int .i64 0, .int .i64 0] rfl rfl (World.news_of_block (cs := #[.int .i64 8, .int .i64 0, .string ⟨#[]⟩, .int .i64 0, .int .i64 (i : Int), .int .i64 1, .int .i64 0, .string ⟨#[]⟩, .int .i64 0, .int .i64 0]) (t := 54) (fr := (0, 0)) (heap_alloc_new wr _)) (by simp [Value.oneCell']) (by decide) (by unfold maxLen; omega) (by omega) z0 (wr.heap.size + 1) (World.size_alloc _ _) ?_; intro gg cap2 wq hown1 hgrow hat hlt; have hcq := ((HGB.out wq hgrow).cell (p := ⟨g, i, none⟩) (block_lt_of_cell HC.out)).trans HC.out)
      go_roundg (m - (i + 1))
      case measure => omega
      case rel =>
        refine ⟨i + 1, by go_num, by omega, rfl, ?_, ?_, HGB.out wq hgrow⟩
        · rw [cntSum, XX.out.2.2, XS.out]
        · rw [cntCodes, List.length_append, ccells_app, XC.out]
          exact hown1
    · obtain rfl : i = m := by omega
      have hnm := cntCodes_len i
      have E1 := Lib.hid (show evalCd env (cntCodes i) = some (cntSum env i) from by
        unfold evalCd
        rw [cntCodes_eval hE3.cnt_le i (by omega)]
        rfl)
      obtain ⟨y7, R7, p1, p2, p3, p4, p5, p6, p7, p8, p9⟩ := rem_facts at_ 7 (by decide) (by decide)
      have hf3 := and3 field
      obtain ⟨F, hF⟩ : ∃ F : Nat, field % 4 = (F : Int) := ⟨(field % 4).toNat, by omega⟩
      rw [hF] at hf3
      have F4 : F < 4 := by omega
      have sb : IntKind.i64.wrap (R7 - 1) = R7 - 1 := IntWalk.i64_in _ (by omega)
      obtain ⟨ad, cc, e9, hC⟩ := codes_at hrow
      injection e9 with e9 _ e10
      have hC' : CodesAt wr o9 (cntCodes i) := by rw [e9]; exact hC
      have C1 := Lib.hid (eval_is hE3 hC' rfl (by omega) E1.out c9 c2)
      have XX := Lib.hid hb
      clear hrow hb hF e9 e10 hC hC' s9 hE3 E1 p9 hnm
      generalize hcs : cntSum env i = cs at *
      have XS := Lib.hid hcs
      clear hcs
      generalize (cntCodes i).length = cl at *
      go_wp2_with fail
      refine C1.out.mono ?_
      rintro e w4 ⟨rfl, b4⟩
      have B4 := Lib.hid (XX.out.trans (b4.mono XX.out.size))
      clear b4 C1
      have C2 := Lib.hid (eval_is ((hEn.out.keep B4.out).new (.cells (ccells [⟨8, 0, 0, R7 - 1⟩]).toArray 54)) (codes_new w4 [⟨8, 0, 0, R7 - 1⟩] w4.heap.size rfl) (n := 1) rfl (by decide) (show evalCd env [⟨8, 0, 0, R7 - 1⟩] = some (env.cnt (R7 - 1)) from rfl) 1 c2)
      go_wp2_with fail
      refine C2.out.mono ?_
      rintro e w5 ⟨rfl, b5⟩
      have B5 := Lib.hid ((B4.out.alloc B4.out.size (.cells (ccells [⟨8, 0, 0, R7 - 1⟩]).toArray 54)).trans (b5.mono (by rw [World.size_alloc]; have := B4.out.size; omega)))
      clear b5 C2
      have FIN := Lib.hid (fun (w' : World) (h : Below w2.heap.size w2 w') => show Below w.heap.size w w' from B2.out.trans (h.mono B2.out.size))
      have CLE := hEn.out.cnt_le (R7 - 1)
      have k7 : -1 ≤ R7 - 1 ∧ R7 - 1 ≤ 5 := by omega
      generalize hk : R7 - 1 = k at *
      have HK := Lib.hid hk
      clear hk
      have c1 := CLE.1
      have c2' := CLE.2
      obtain ⟨N, hN⟩ : ∃ N : Nat, env.cnt k = (N : Int) := ⟨(env.cnt k).toNat, by omega⟩
      have E5 := Lib.hid ((hEn.out.keep B5.out).new (.cells (ccells [⟨7, 0, (F : Int), k⟩]).toArray 54))
      have D5 := Lib.hid (codes_new w5 [⟨7, 0, (F : Int), k⟩] w5.heap.size rfl)
      by_cases h0 : env.cnt k = 0
      · have C3 := Lib.hid (eval_no E5.out D5.out (n := 1) rfl (by decide) (by
          show one? ((if env.cnt k = 0 ∨ (F : Int) < 0 ∨ 4 ≤ (F : Int) then none else some [env.last k F]).bind (evalSt env [])) = none
          rw [if_pos (.inl h0)]
          rfl) 1 c2)
        clear E5 D5 hN CLE c1 c2'
        by_cases hk0 : k < 0
        · have g1 : decide (k < 0) = true := by simpa using hk0
          rw [h0]
          clear h0
          go_wp2_with fail
          refine C3.out.mono ?_
          rintro e w6 ⟨rfl, b6⟩
          have B6 := Lib.hid ((B5.out.alloc B5.out.size (.cells (ccells [⟨7, 0, (F : Int), k⟩]).toArray 54)).trans (b6.mono (by rw [World.size_alloc]; have := B5.out.size; omega)))
          clear b6 C3
          go_wp2_with fail
          go_ret
          exact ⟨rfl, FIN.out _ B6.out⟩
        · have g1 : decide (k < 0) = false := by simpa using hk0
          obtain ⟨kk, rfl⟩ : ∃ kk : Nat, k = (kk : Int) := ⟨k.toNat, by omega⟩
          by_cases hki : i ≤ kk
          · have g2 : decide ((i : Int) ≤ (kk : Int)) = true := by simpa using hki
            rw [h0]
            clear h0
            go_wp2_with fail
            refine C3.out.mono ?_
            rintro e w6 ⟨rfl, b6⟩
            have B6 := Lib.hid ((B5.out.alloc B5.out.size (.cells (ccells [⟨7, 0, (F : Int), (kk : Int)⟩]).toArray 54)).trans (b6.mono (by rw [World.size_alloc]; have := B5.out.size; omega)))
            clear b6 C3
            go_wp2_with fail
            go_ret
            exact ⟨rfl, FIN.out _ B6.out⟩
          · have g2 : decide ((i : Int) ≤ (kk : Int)) = false := by simpa using hki
            obtain ⟨g, ea, n, c, rfl, hc0, hcnt, hset⟩ := hEn.out.at_ kk (by omega)
            obtain rfl : n = 0 := by omega
            have HC := Lib.hid hc0
            have kl : kk < i := by omega
            clear hc0 hcnt hset
            rw [h0]
            clear h0
            go_wp2_with fail
            refine C3.out.mono ?_
            rintro e w6 ⟨rfl, b6⟩
            have B6 := Lib.hid ((B5.out.alloc B5.out.size (.cells (ccells [⟨7, 0, (F : Int), (kk : Int)⟩]).toArray 54)).trans (b6.mono (by rw [World.size_alloc]; have := B5.out.size; omega)))
            have hcell := (B6.out.cell (p := ⟨g, kk, none⟩) (block_lt_of_cell HC.out)).trans HC.out
            clear b6 C3
            go_wp2_with fail
            go_ret
            exact ⟨rfl, FIN.out _ B6.out⟩
      · have C3 := Lib.hid (eval_is E5.out D5.out (n := 1) rfl (by decide) (show evalCd env [⟨7, 0, (F : Int), k⟩] = some (env.last k F) from by
          show one? ((if env.cnt k = 0 ∨ (F : Int) < 0 ∨ 4 ≤ (F : Int) then none else some [env.last k F]).bind (evalSt env [])) = _
          rw [if_neg (by omega)]
          rfl) 1 c2)
        have kin : 0 ≤ k ∧ k < (i : Int) := by
          refine Decidable.byContradiction fun hne => h0 (hEn.out.out k (by omega))
        obtain ⟨kk, rfl⟩ : ∃ kk : Nat, k = (kk : Int) := ⟨k.toNat, by omega⟩
        have kl : kk < i := by omega
        have g1 : decide ((kk : Int) < 0) = false := by simp
        have g2 : decide ((i : Int) ≤ (kk : Int)) = false := by simpa using kl
        obtain ⟨g, ea, n, c, rfl, hc0, hcnt, hset⟩ := hEn.out.at_ kk kl
        rw [hcnt] at h0 CLE ⊢
        obtain ⟨hb0, rfl, hcs⟩ := hset.at_ (by omega)
        have hx0 := hcs F F4
        have hle := hset.le
        obtain ⟨n', rfl⟩ : ∃ n', n = n' + 1 := ⟨n - 1, by omega⟩
        rw [Nat.add_sub_cancel] at hx0
        have HC := Lib.hid (And.intro hc0 hx0)
        have g0 : ((((n' + 1 : Nat) : Int)) == 0) = false := by simp; omega
        have g0' : (((n' : Nat) : Int) + 1 == 0) = false := by simp; omega
        clear hc0 hcnt hset hcs hx0 E5 D5 hN CLE c1 c2' h0 kin
        generalize env.last (kk : Int) (F : Int) = x at *
        go_wp2_with fail
        refine C3.out.mono ?_
        rintro e w6 ⟨rfl, b6⟩
        have B6 := Lib.hid ((B5.out.alloc B5.out.size (.cells (ccells [⟨7, 0, (F : Int), (kk : Int)⟩]).toArray 54)).trans (b6.mono (by rw [World.size_alloc]; have := B5.out.size; omega)))
        have hcell := (B6.out.cell (p := ⟨g, kk, none⟩) (block_lt_of_cell HC.out.1)).trans HC.out.1
        have hcell2 := (B6.out.cell (p := ⟨hb0, n' * 6 + 2 + F, none⟩) (block_lt_of_cell HC.out.2)).trans HC.out.2
        clear b6 C3
        go_wp2_with fail
        go_quiet (fail)
        go_wp2_with fail
        go_ret
        exact ⟨rfl, FIN.out _ ⟨B6.out.os, B6.out.tape, B6.out.output, B6.out.size, B6.out.block⟩⟩
end Go.Proofs.Ytjfbjkgppnhaoaa
