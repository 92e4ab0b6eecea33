/-
  The codes that the statements of layer 5 make of steps by plain numbers.
-/
import Derived.Test.YtjfbjkgppnhaoaaEnv
namespace Go.Proofs.Ytjfbjkgppnhaoaa
open Go.ChangeShapes Go.WideShapes Go.ChangeAt Go.RowKit
set_option linter.unusedVariables false

/-- Steps that came in: four numbers each. -/
def StepsAt (w : World) (b off len : Nat) (O A F N : Nat → Int) : Prop := ∀ i, i < len → w.cell? ⟨b, off + i * 4, none⟩ = some (.int .i64 (O i)) ∧ w.cell? ⟨b, off + i * 4 + 1, none⟩ = some (.int .i64 (A i)) ∧ w.cell? ⟨b, off + i * 4 + 2, none⟩ = some (.int .i64 (F i)) ∧ w.cell? ⟨b, off + i * 4 + 3, none⟩ = some (.int .i64 (N i))
def StepsIn (w : World) (a : Option Addr) (len : Nat) : Prop :=
  len = 0 ∨ ∃ b off O A F N, a = some ⟨b, off, none⟩ ∧ len ≤ 9223372036854775807 ∧ StepsAt w b off len O A F N
theorem StepsAt.keep {w w' : World} {b off len : Nat} {O A F N : Nat → Int} (h : StepsAt w b off len O A F N) (hb : Below w.heap.size w w') : StepsAt w' b off len O A F N := fun i hi => by
  obtain ⟨h0, h1, h2, h3⟩ := h i hi
  have hl := block_lt_of_cell h0
  exact ⟨(hb.cell (p := ⟨b, off + i * 4, none⟩) hl).trans h0, (hb.cell (p := ⟨b, off + i * 4 + 1, none⟩) hl).trans h1, (hb.cell (p := ⟨b, off + i * 4 + 2, none⟩) hl).trans h2, (hb.cell (p := ⟨b, off + i * 4 + 3, none⟩) hl).trans h3⟩
theorem StepsIn.keep {w w' : World} {a : Option Addr} {len : Nat} (h : StepsIn w a len) (hb : Below w.heap.size w w') : StepsIn w' a len := by
  rcases h with h | ⟨b, off, O, A, F, N, e, hl, h⟩
  · exact .inl h
  · exact .inr ⟨b, off, O, A, F, N, e, hl, h.keep hb⟩

def remI (x n : Int) : Int := (x.tmod n + n) % n
def codeOf (op at_ fld n : Int) : Cd := ⟨remI op 11, n, remI fld 5, remI at_ 6 - 1⟩
def ccell (c : Cd) : List Value := [.int .i64 c.op, .int .i64 c.n, .string ByteArray.empty, .int .i64 c.fld, .int .i64 c.place]
def ccells : List Cd → List Value
  | [] => []
  | q :: l => ccell q ++ ccells l
theorem ccells_app : ∀ (l m : List Cd), ccells (l ++ m) = ccells l ++ ccells m
  | [], m => rfl
  | p :: l, m => by simp [ccells, ccells_app l m]
theorem ccells_snoc (l : List Cd) (q : Cd) : ccells (l ++ [q]) = ccells l ++ ccell q := by rw [ccells_app]; simp [ccells]
theorem ccells_len : ∀ (l : List Cd), (ccells l).length = l.length * 5
  | [] => rfl
  | p :: l => by
    rw [ccells, List.length_append, ccells_len l]
    simp [ccell]
    omega
theorem ccells_at : ∀ (l : List Cd) (j o : Nat) (q : Cd) (u : Value), l[j]? = some q → (ccell q)[o]? = some u → (ccells l)[j * 5 + o]? = some u
  | [], j, o, q, u, h, _ => by simp at h
  | p :: l, 0, o, q, u, h, ho => by
    simp at h
    subst h
    have hl : o < (ccell p).length := (List.getElem?_eq_some_iff.1 ho).1
    rw [ccells, Nat.zero_mul, Nat.zero_add, List.getElem?_append_left hl]
    exact ho
  | p :: l, j + 1, o, q, u, h, ho => by
    have hl : (ccell p).length = 5 := rfl
    rw [ccells, List.getElem?_append_right (by rw [hl]; omega), hl, show (j + 1) * 5 + o - 5 = j * 5 + o from by omega]
    exact ccells_at l j o q u (by simpa using h) ho
/-- The codes of the first k steps. -/
def codesOf (O A F N : Nat → Int) (k : Nat) : List Cd := (List.range k).map (fun i => codeOf (O i) (A i) (F i) (N i))
theorem codesOf_len (O A F N : Nat → Int) (k : Nat) : (codesOf O A F N k).length = k := by simp [codesOf]
theorem codesOf_succ (O A F N : Nat → Int) (k : Nat) : codesOf O A F N (k + 1) = codesOf O A F N k ++ [codeOf (O k) (A k) (F k) (N k)] := by simp [codesOf, List.range_succ]
theorem info54 : (Try.prog.info? 54).map (fun i => (i.zero, i.size, i.bytes)) = some (some (.agg #[.int .i64 0, .int .i64 0, .string ByteArray.empty, .int .i64 0, .int .i64 0]), 5, 48) := by kernel_rfl

theorem two_heap (w : World) (o o2 : Obj) : ((w.alloc o).alloc o2).heap[w.heap.size + 1]? = some o2 := by
  have := heap_alloc_new (w.alloc o) o2
  rw [World.size_alloc] at this
  exact this
def CoRel (w : World) (O A F N : Nat → Int) (len : Nat) (gh : Nat) (v3 v4 : Value) (wr : World) : Prop :=
  ∃ (i : Nat), v4 = .int .i64 (i : Int) ∧ i ≤ len ∧ i ≤ 12 ∧ gh = 12 - i ∧ wr.ownsRow w.heap.size 54 5 v3 i (ccells (codesOf O A F N i)) ∧ Below w.heap.size w wr
theorem rem_facts (x n : Int) (h1 : 1 ≤ n) (h2 : n ≤ 1000) : ∃ y R, x.tmod n = y ∧ -n < y ∧ y < n ∧ wrap64 (y + n) = y + n ∧ (y + n).tmod n = R ∧ (y + n) % n = R ∧ 0 ≤ R ∧ R < n ∧ remI x n = R := by
  have t1 : -n < x.tmod n := Int.lt_tmod_of_pos x (by omega)
  have t2 : x.tmod n < n := Int.tmod_lt_of_pos x (by omega)
  have e2 : (x.tmod n + n).tmod n = (x.tmod n + n) % n := Int.tmod_eq_emod_of_nonneg (by omega)
  exact ⟨x.tmod n, (x.tmod n + n) % n, rfl, t1, t2, by unfold wrap64; omega, e2, rfl, Int.emod_nonneg _ (by omega), Int.emod_lt_of_pos _ (by omega), rfl⟩

set_option maxRecDepth 100000 in
set_option maxHeartbeats 4000000 in
theorem codes_walk {w : World} {b off len cap : Nat} {ad : Option Addr} {O A F N : Nat → Int} (had : 0 < len → ad = some ⟨b, off, none⟩) (h : StepsAt w b off len O A F N) (hlen : len ≤ 9223372036854775807) :
    Calls Try.prog 22 #[.slice ad len cap] w fun e w' => ∃ v, e = .returned v ∧ w'.ownsRow w.heap.size 54 5 v (min len 12) (ccells (codesOf O A F N (min len 12))) ∧ Below w.heap.size w w' := by
  obtain ⟨i0, hi1, hz0, hz1, hz2⟩ := info_parts info54
  have R0 : CoRel w O A F N len 12 (.slice none 0 0) (.int .i64 0) w := ⟨0, rfl, Nat.zero_le _, Nat.zero_le _, rfl, World.ownsRow_nil _ _ _ _, Below.refl _ _⟩
  have H := Lib.hid h
  have AD := Lib.hid had
  clear h had
  go_enter Try.func22, Try.ntmps22
  go_wp2_with fail
  go_loopg [3, 4] 12 (fun gh v3 v4 wr => CoRel w O A F N len gh v3 v4 wr)
  case atStart => exact R0
  case round =>
    clear R0
    obtain ⟨i, rfl, hi, hi4, hg, hrow, hbel⟩ := hrel
    obtain ⟨o3, c3, rfl, _⟩ := prow_slice hrow
    by_cases hil : i < len
    · by_cases hi5 : i < 12
      · obtain rfl := AD.out (by omega)
        obtain ⟨x0, x1, x2, x3⟩ := H.out.keep hbel i hil
        obtain ⟨y1, R1, p1, p2, p3, p4, p5, p6, p7, p8, p9⟩ := rem_facts (O i) 11 (by decide) (by decide)
        obtain ⟨y2, R2, q1, q2, q3, q4, q5, q6, q7, q8, q9⟩ := rem_facts (A i) 6 (by decide) (by decide)
        obtain ⟨y3, R3, s1, s2, s3, s4, s5, s6, s7, s8, s9⟩ := rem_facts (F i) 5 (by decide) (by decide)
        have XX := Lib.hid (And.intro p9 (And.intro q9 (And.intro s9 hbel)))
        have i4 : (i : Int) < 12 := by omega
        have sz := hbel.size
        have z0 : w.heap.size ≤ ((wr.alloc (.cells #[.int .i64 (O i), .int .i64 (A i), .int .i64 (F i), .int .i64 (N i)] 119)).alloc (.cells #[.int .i64 R1, .int .i64 (N i), .string ByteArray.empty, .int .i64 R3, .int .i64 (R2 - 1)] 54)).heap.size := by rw [World.size_alloc, World.size_alloc]; omega
        have sb : IntKind.i64.wrap (R2 - 1) = R2 - 1 := IntWalk.i64_in _ (by omega)
        clear p9 q9 s9 hbel
        go_wp2_with (at_builtin; (refine wpList_append_lies _ rfl (.tmp 20) (.tmp 40) 39 rfl w.heap.size 54 i0 _ 5 48 Try.underlying39 hi1 hz0 hz1 hz2 rfl (by decide) (.slice o3 i c3) i (ccells (codesOf O A F N i)) rfl ((hrow.alloc _).alloc _) ⟨wr.heap.size + 1, 0, none⟩ 1 1 [.int .i64 R1, .int .i64 (N i), .string ByteArray.empty, .int .i64 R3, .int .i64 (R2 - 1)] rfl rfl (World.news_of_block (cs := #[.int .i64 R1, .int .i64 (N i), .string ByteArray.empty, .int .i64 R3, .int .i64 (R2 - 1)]) (t := 54) (fr := (0, 0)) (two_heap wr _ _)) (by simp [Value.oneCell']) (by decide) (by unfold maxLen; omega) (by omega) z0 (wr.heap.size + 2) (by rw [World.size_alloc, World.size_alloc]) ?_; intro gg cap2 w1 hown1 hgrow hat hlt))
        go_roundg (12 - (i + 1))
        case measure => omega
        case rel =>
          obtain ⟨p9, q9, s9, hbel⟩ := XX.out
          have hb6 : Below w.heap.size w w1 := hbel.trans ((((Below.refl w.heap.size wr).alloc sz _).alloc (by rw [World.size_alloc]; omega) _).grown hgrow (by rw [World.size_alloc, World.size_alloc]; omega) (fun j ej => (prow_lt hrow ej).1))
          refine ⟨i + 1, by go_num, by omega, by omega, rfl, ?_, hb6⟩
          rw [codesOf_succ, ccells_snoc]
          unfold codeOf ccell
          rw [p9, q9, s9]
          exact hown1
      · have X5 := Lib.hid (And.intro hrow hbel)
        have e := Lib.hid (show min len 12 = i by omega)
        clear hrow hbel
        go_wp2
        go_ret
        exact ⟨_, rfl, by rw [e.out]; exact X5.out.1, X5.out.2⟩
    · have X5 := Lib.hid (And.intro hrow hbel)
      have e := Lib.hid (show min len 12 = i by omega)
      clear hrow hbel
      go_wp2
      go_ret
      exact ⟨_, rfl, by rw [e.out]; exact X5.out.1, X5.out.2⟩
/-- What codes(l) makes: a row of its own, the same codes each time. -/
theorem codes_any {w0 : World} {ad : Option Addr} {len : Nat} (h : StepsIn w0 ad len) : ∃ cs : List Cd, cs.length ≤ 12 ∧ ∀ w cap, Below w0.heap.size w0 w → Calls Try.prog 22 #[.slice ad len cap] w fun e w' => ∃ v, e = .returned v ∧ w'.ownsRow w.heap.size 54 5 v cs.length (ccells cs) ∧ Below w.heap.size w w' := by
  rcases h with h0 | ⟨b, off, O, A, F, N, e, hl, h⟩
  · subst h0
    refine ⟨[], Nat.zero_le _, fun w cap _ => (codes_walk (b := 0) (off := 0) (O := fun _ => 0) (A := fun _ => 0) (F := fun _ => 0) (N := fun _ => 0) (fun h => absurd h (by omega)) (fun i hi => absurd hi (by omega)) (by omega)).mono fun e w' h => h⟩
  · refine ⟨codesOf O A F N (min len 12), by rw [codesOf_len]; omega, fun w cap hb => ?_⟩
    rw [codesOf_len]
    exact codes_walk (fun _ => e) (h.keep hb) hl
end Go.Proofs.Ytjfbjkgppnhaoaa
