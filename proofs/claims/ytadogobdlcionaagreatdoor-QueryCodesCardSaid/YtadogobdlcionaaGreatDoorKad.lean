/-
  Signs.
  A number is parsed.
  A region that draws, and whose last store writes what its loads read: the condition on the world holds up to that store alone.
  The token at a place.
-/
import Derived.Test.YtadogobdlcionaaGreatDoorKab
import Derived.Test.YtadogobdlcionaaGreatDoorKac
import Derived.Test.YtadogobdlcionaaGreatDoorKaa
import Derived.Deep.RegionHeld3
import Derived.WalkMore
import Derived.Deep.CutBlock
set_option linter.unusedSimpArgs false
namespace Go.Proofs.YtadogobdlcionaaGreatDoor
open Go.ChangeShapes Go.WideShapes Go.ChangeAt Go.RowKit
set_option linter.unusedVariables false
def signsL : List UInt8 := [44, 43, 45, 42, 47, 37, 61, 60, 62, 46, 35, 33, 40, 41]
theorem index_sign (c : UInt8) : decide ((0 : Int) ≤ Lib.indexByte signsL c) = isSign c := by
  have h : ∀ n : Fin 256, decide ((0 : Int) ≤ Lib.indexByte signsL (UInt8.ofNat n.val)) = isSign (UInt8.ofNat n.val) := by decide +kernel
  have := h ⟨c.toNat, c.toNat_lt⟩
  simpa using this
theorem size_cons {t : ByteArray} {c : UInt8} {r : List UInt8} (h : t.data.toList = c :: r) : t.size = r.length + 1 := by rw [str_len, h]; rfl
set_option maxRecDepth 100000 in
set_option maxHeartbeats 1000000 in
theorem sign_is (w : World) {t : ByteArray} {c : UInt8} {r : List UInt8} (h : t.data.toList = c :: r) : Calls Tryz.prog 97 #[.string t] w fun e w' => e = .returned (.int .i64 (signB (c :: r) : Int)) ∧ w = w' := by
  have hx0 : ∀ W, (Instr.index 9 (.string t) (.int .i64 0)).run Tryz.prog W = .ok (.int .u8 (c.toNat : Int)) W := fun W => str_at (i := 0) (by rw [h]; rfl) W
  have IX : Calls Tryz.prog 108 #[.string ⟨#[44, 43, 45, 42, 47, 37, 61, 60, 62, 46, 35, 33, 40, 41]⟩, .int .u8 (c.toNat : Int)] w fun e w' => e = .returned (.int .i64 (Lib.indexByte signsL c)) ∧ w' = w := by
    have := Tryz.strings_IndexByte ⟨#[44, 43, 45, 42, 47, 37, 61, 60, 62, 46, 35, 33, 40, 41]⟩ (c.toNat : Int) w
    have e : (c.toNat : Int).toNat.toUInt8 = c := by simp
    rw [e] at this
    exact this
  have IX := Lib.hid IX
  have u2 := index_sign c
  generalize Lib.indexByte signsL c = ix at *
  have hs := size_cons h
  -- the second byte
  have key : ∀ (b1 b2 : Bool), (b1 = true → b2 = false → signB (c :: r) = (if isSign c then 1 else 0)) → True := fun _ _ _ => trivial
  by_cases hr : ∃ d r', r = d :: r'
  · obtain ⟨d, r', rfl⟩ := hr
    have hx1 : ∀ W, (Instr.index 9 (.string t) (.int .i64 1)).run Tryz.prog W = .ok (.int .u8 (d.toNat : Int)) W := fun W => str_at (i := 1) (by rw [h]; rfl) W
    have u1 : decide ((1 : Int) < (t.size : Int)) = true := decide_eq_true (by rw [hs]; simp; omega)
    have sg : signB (c :: d :: r') = if d.toNat = 61 ∧ (c.toNat = 33 ∨ c.toNat = 60 ∨ c.toNat = 62) then 2 else if isSign c then 1 else 0 := rfl
    rw [sg]
    generalize isSign c = sc at *
    obtain ⟨m, hm⟩ : ∃ m : Int, m = (c.toNat : Int) := ⟨_, rfl⟩
    obtain ⟨k, hk⟩ : ∃ k : Int, k = (d.toNat : Int) := ⟨_, rfl⟩
    rw [← hm] at hx0 IX
    rw [← hk] at hx1
    generalize hR : (if d.toNat = 61 ∧ (c.toNat = 33 ∨ c.toNat = 60 ∨ c.toNat = 62) then 2 else if sc = true then 1 else 0) = R
    clear sg hs h key
    by_cases h1 : k = 61
    · by_cases h2 : m = 33 ∨ m = 60 ∨ m = 62
      · rw [if_pos ⟨by omega, by omega⟩] at hR
        subst hR
        clear hm hk
        have q1 : (k == 61) = true := by simp [h1]
        subst h1
        rcases h2 with rfl | rfl | rfl
        all_goals
          go_enter Tryz.func97, Tryz.ntmps97
          go_wp2_with fail
          go_ret
          exact ⟨rfl, rfl⟩
      · rw [if_neg (fun e => h2 (by have := e.2; omega))] at hR
        subst hR
        clear hm hk
        have q1 : (k == 61) = true := by simp [h1]
        have q2 : (m == 33) = false := by simp; omega
        have q3 : (m == 60) = false := by simp; omega
        have q4 : (m == 62) = false := by simp; omega
        subst h1
        clear h2
        cases sc <;>
        · go_enter Tryz.func97, Tryz.ntmps97
          go_wp2_with fail
          with_reducible refine IX.out.mono ?_
          rintro e w1 ⟨rfl, rfl⟩
          go_wp2_with fail
          go_ret
          exact ⟨rfl, rfl⟩
    · rw [if_neg (fun e => h1 (by have := e.1; omega))] at hR
      subst hR
      clear hm hk
      have q1 : (k == 61) = false := by simp [h1]
      clear h1
      cases sc <;>
      · go_enter Tryz.func97, Tryz.ntmps97
        go_wp2_with fail
        with_reducible refine IX.out.mono ?_
        rintro e w1 ⟨rfl, rfl⟩
        go_wp2_with fail
        go_ret
        exact ⟨rfl, rfl⟩
  · have hr0 : r = [] := by
      cases r with
      | nil => rfl
      | cons d r' => exact absurd ⟨d, r', rfl⟩ hr
    subst hr0
    have u1 : decide ((1 : Int) < (t.size : Int)) = false := decide_eq_false (by rw [hs]; simp)
    have sg : signB [c] = if isSign c then 1 else 0 := rfl
    rw [sg]
    generalize isSign c = sc at *
    obtain ⟨m, hm⟩ : ∃ m : Int, m = (c.toNat : Int) := ⟨_, rfl⟩
    rw [← hm] at hx0 IX
    clear hm sg hs h key hr
    cases sc <;>
    · go_enter Tryz.func97, Tryz.ntmps97
      go_wp2_with fail
      with_reducible refine IX.out.mono ?_
      rintro e w1 ⟨rfl, rfl⟩
      go_wp2_with fail
      go_ret
      exact ⟨rfl, rfl⟩
end Go.Proofs.YtadogobdlcionaaGreatDoor
namespace Go.Proofs.YtadogobdlcionaaGreatDoor
open Go.ChangeShapes Go.WideShapes Go.ChangeAt Go.RowKit
set_option linter.unusedVariables false
/-- What the variable strconv.ErrRange holds is an interface value. -/
def ErrAt (w : World) : Prop := 5 ≤ w.heap.size ∧ ∃ tp p, w.cell? ⟨4, 0, none⟩ = some (.iface tp p)
theorem ErrAt.turn {S : Nat → Prop} {w w' : World} (h : ErrAt w) (T : Turn S w w') (hs : ¬ S 4) : ErrAt w' := by
  obtain ⟨h2, tp, p, hp⟩ := h
  exact ⟨Nat.le_trans h2 T.size, tp, p, T.cell hs hp⟩
theorem parse_ok (w : World) {t : ByteArray} {c : UInt8} {r : List UInt8} (hD : t.data.toList = c :: r) (hd : ∀ x ∈ c :: r, isDigit x = true) (hv : decV 0 (c :: r) < 9223372036854775808) (hs : t.size ≤ 140737488355328) :
    Calls Tryz.prog 96 #[.string t, .int .i64 10, .int .i64 64] w fun e w' => e = .returned (.tuple #[.int .i64 (decV 0 (c :: r) : Int), .nilIface]) ∧ Turn (fun _ => False) w w' := by
  have hp := parseI_digits hd
  rw [if_pos hv, ← hD] at hp
  refine (Tryz.strconv_ParseInt_10_at64_ok t (by omega) _ hp w).mono ?_
  rintro e w' ⟨rfl, h⟩
  rw [hD]
  refine ⟨rfl, ?_⟩
  rcases h with rfl | ⟨t', rfl⟩
  · exact Turn.refl _ _
  · exact Turn.of_below (Lib.bytesWorld_below w 5 t')
theorem parse_no (w : World) {t : ByteArray} {c : UInt8} {r : List UInt8} (hD : t.data.toList = c :: r) (hd : ∀ x ∈ c :: r, isDigit x = true) (hv : ¬ decV 0 (c :: r) < 9223372036854775808) (hs : t.size ≤ 140737488355328) (hE : ErrAt w) :
    Calls Tryz.prog 96 #[.string t, .int .i64 10, .int .i64 64] w fun e w' => (∃ v N, e = .returned (.tuple #[.int .i64 v, .iface 170 (.pointer (some ⟨N, 0, none⟩))])) ∧ Turn (fun _ => False) w w' := by
  have hp := parseI_digits hd
  rw [if_neg hv, ← hD] at hp
  obtain ⟨h2, tp, p, he⟩ := hE
  refine (Tryz.strconv_ParseInt_10_at64_range t (by omega) hp _ w he (.inr ⟨_, _, rfl⟩)).mono ?_
  rintro e w' ⟨N, rfl, _, _, B⟩
  exact ⟨⟨_, _, rfl⟩, Turn.of_below B⟩
end Go.Proofs.YtadogobdlcionaaGreatDoor
namespace Go.Proofs.YtadogobdlcionaaGreatDoor
open Go.ChangeShapes Go.WideShapes Go.ChangeAt Go.RowKit
set_option linter.unusedVariables false
set_option linter.unusedSimpArgs false
section
variable {P : Program} {ops : Array Oper} {Q : Exit → Act → World → Prop} {F : Bool → World → Prop} {st : Nat}
/-- Whatever order is picked; behind each operation F holds, told whether operation st is done. -/
def LAny (P : Program) (ops : Array Oper) (Q : Exit → Act → World → Prop) (F : Bool → World → Prop) (st : Nat) : Nat → Array Bool → Act → World → Prop
  | 0, li, a, w => Region.ready .any ops li = [] ∧ Q .normal a w
  | n + 1, li, a, w => (Region.ready .any ops li = [] → Q .normal a w) ∧ ∀ i ∈ Region.ready .any ops li, wpOp P ops Q i (fun a' w' => F ((li.setIfInBounds i true).getD st true) w' ∧ LAny P ops Q F st n (li.setIfInBounds i true) a' w') a w
theorem LAny.any : ∀ (n : Nat) (li : Array Bool) (a : Act) (w : World), LAny P ops Q F st n li a w → wpAny P .any ops Q n li a w
  | 0, _, _, _, h => h
  | n + 1, _, _, _, h => ⟨h.1, fun i hi => wpOp_mono (fun a' w' q => LAny.any n _ a' w' q.2) (h.2 i hi)⟩
theorem lany_start {id : Nat} {a : Act} {w : World} (st : Nat) (F : Bool → World → Prop) (hm : P.follows .mixedOrders = true) (hF : F false w.drew) (h : F false w.drew → LAny P ops Q F st ops.size (Array.replicate ops.size false) a w.drew) : (Code.region id ops true).wp P Q a w :=
  wp_region_any hm (LAny.any _ _ _ _ (h hF))
/-- What waits for i does not come up ahead of it. -/
theorem waits_not {i j : Nat} {li : Array Bool} (hi : li.getD i true = false) (hj : j ∈ Region.ready .any ops li) : ∃ o, ops[j]? = some o ∧ ∀ e ∈ o.after, Region.binds .any e = true → e.on ≠ i := by
  obtain ⟨_, o, ho, hall⟩ := mem_ready.1 hj
  refine ⟨o, ho, fun e he hb q => ?_⟩
  have h1 := hall e he hb
  rw [q] at h1
  rw [Array.getD_eq_getD_getElem?] at hi h1
  cases hl : li[i]? with
  | none => rw [hl] at hi; cases hi
  | some b => rw [hl] at hi h1; exact absurd (h1.symm.trans hi) (by simp)
/-- An operation that reads is taken first, if operation st, which writes what it reads, waits for it. -/
theorem LAny.first {i : Nat} {oi : Oper} {v : Value} (hi : ops[i]? = some oi) (hsel : ∀ (j : Nat) (o : Oper) (cs : Array SelectCase) (b : Bool), ops[j]? = some o → o.op ≠ .select cs b) (hQ : ∀ c a w, Q (.panic c) (a.put oi.dst v) w → Q (.panic c) a w)
    (hst : i ≠ st) (hw : ∀ o, ops[st]? = some o → ∃ e ∈ o.after, Region.binds .any e = true ∧ e.on = i) :
    ∀ (n : Nat) (li : Array Bool) (a : Act) (w : World), (∀ j oj, ops[j]? = some oj → j ≠ i → li.getD j true = false → (∀ e ∈ oj.after, Region.binds .any e = true → e.on ≠ i) → oi.apart ops oj = true) →
      i ∈ Region.ready .any ops li → li.getD st true = false → YieldsIf P ops (F false) oi v a → F false w → LAny P ops Q F st n (li.setIfInBounds i true) (a.put oi.dst v) w → LAny P ops Q F st (n + 1) li a w := by
  intro n
  induction n with
  | zero =>
    intro li a w _ hr hs hy hF H
    refine ⟨fun q => (by rw [q] at hr; cases hr), fun j hj => ?_⟩
    by_cases e : j = i
    · subst e
      exact hy.wpOp hi hF ⟨by rw [getD_set_ne true hst, hs]; exact hF, H⟩
    · have h0 := ready_mono hj e
      rw [H.1] at h0
      cases h0
  | succ n ih =>
    intro li a w hfree hr hs hy hF H
    refine ⟨fun q => (by rw [q] at hr; cases hr), fun j hj => ?_⟩
    by_cases e : j = i
    · subst e
      exact hy.wpOp hi hF ⟨by rw [getD_set_ne true hst, hs]; exact hF, H⟩
    · have hun := (mem_ready.1 hr).1
      obtain ⟨oj, hoj, hno⟩ := waits_not hun hj
      have hjst : j ≠ st := fun q => by
        subst q
        obtain ⟨ed, h1, h2, h3⟩ := hw oj hoj
        exact hno ed h1 h2 h3
      have hju := (mem_ready.1 hj).1
      have h2 := wpOp_putIf hoj (hfree j oj hoj e hju hno) (fun cs b => hsel i oi cs b hi) (fun cs b => hsel j oj cs b hoj) hQ hy (H.2 j (ready_mono hj e))
      have hs2 : (li.setIfInBounds j true).getD st true = false := by rw [getD_set_ne true hjst]; exact hs
      refine wpOp_mono (fun a' w' q => ?_) h2
      obtain ⟨q1, q2, q3⟩ := q
      rw [getD_set_ne true hjst, getD_set_ne true hst, hs] at q2
      rw [Array.setIfInBounds_comm _ _ (fun z => e z.symm)] at q3
      refine ⟨by rw [hs2]; exact q2, ih _ a' w' (fun k ok hk hki hku hkn => hfree k ok hk hki ?_ hkn) (ready_mono hr (fun z => e z.symm)) hs2 q1 q2 q3⟩
      by_cases z : j = k
      · subst z; exact hju
      · rw [getD_set_ne true z] at hku; exact hku
theorem LAny.take {i : Nat} {oi : Oper} {v : Value} {n : Nat} {li : Array Bool} {a : Act} {w : World} (hi : ops[i]? = some oi) (hs : Region.noSelect ops = true) (hf : Region.free .any ops li i = true) (hr : (Region.ready .any ops li).contains i = true)
    (hq : (li.getD st true == false && i != st && (match ops[st]? with | none => true | some o => o.after.any (fun e => Region.binds .any e && e.on == i))) = true) (hQ : ∀ c a w, Q (.panic c) (a.put oi.dst v) w → Q (.panic c) a w) (hy : YieldsIf P ops (F false) oi v a) (hF : F false w)
    (h : LAny P ops Q F st n (li.setIfInBounds i true) (a.put oi.dst v) w) : LAny P ops Q F st (n + 1) li a w := by
  simp only [Bool.and_eq_true, beq_iff_eq, bne_iff_ne] at hq
  obtain ⟨⟨q1, q2⟩, q3⟩ := hq
  refine LAny.first hi (Region.noSelect_spec hs) hQ q2 (fun o ho => ?_) n li a w (Region.free_spec hi hf) (by simpa using hr) q1 hy hF h
  rw [ho] at q3
  simp only [Array.any_eq_true, Bool.and_eq_true, beq_iff_eq] at q3
  obtain ⟨k, hk, z1, z2⟩ := q3
  exact ⟨_, Array.getElem_mem hk, z1, z2⟩
/-- One operation alone may come up. -/
theorem LAny.one {i : Nat} {o : Oper} {b : Bool} {n : Nat} {li : Array Bool} {a : Act} {w : World} (hr : Region.ready .any ops li = [i]) (ho : ops[i]? = some o) (hb : (li.setIfInBounds i true).getD st true = b)
    (h : ∀ K' : Act → World → Prop, Shut (∀ a w, F b w → (F b w → LAny P ops Q F st n (li.setIfInBounds i true) a w) → K' a w) → if Region.wanted o (yielded ops a.tmps) = true then Oper.wp P o a w K' Q else K' (a.put o.dst undef) w) : LAny P ops Q F st (n + 1) li a w :=
  ⟨fun q => (by rw [hr] at q; cases q), fun j hj => by
    rw [hr] at hj
    obtain rfl : j = i := by simpa using hj
    exact wpOp_step ho (fun K' hK => h K' (fun a w hS hW => hK a w ⟨by rw [hb]; exact hS, hW hS⟩))⟩
theorem LAny.done {li : Array Bool} {a : Act} {w : World} (hr : Region.ready .any ops li = []) (h : Q .normal a w) : ∀ n, LAny P ops Q F st n li a w
  | 0 => ⟨hr, h⟩
  | _ + 1 => ⟨fun _ => h, by rw [hr]; simp⟩
end
end Go.Proofs.YtadogobdlcionaaGreatDoor
namespace Go.Proofs.YtadogobdlcionaaGreatDoor
open Go.ChangeShapes Go.WideShapes Go.ChangeAt Go.RowKit
set_option linter.unusedVariables false
theorem cell_new {w : World} {cs : Array Value} {t : TypeId} {b i : Nat} {v : Value} (hb : b = w.heap.size) (h : cs[i]? = some v) : (w.alloc (.cells cs t)).cell? ⟨b, i, none⟩ = some v := by
  subst hb
  exact (World.cell?_alloc_new w cs t i).trans h
theorem Blk.newA {w : World} {cs : Array Value} {t : TypeId} {b : Nat} (hb : b = w.heap.size) : Blk (w.alloc (.cells cs t)) b t := by
  subst hb
  exact ⟨cs, by show (Array.push _ _)[_]? = _; simp⟩
theorem Blk.alloc {w : World} {t : TypeId} {b : Nat} (h : Blk w b t) (o : Obj) : Blk (w.alloc o) b t := h.turn ((Turn.refl (fun _ => False) w).alloc o) (fun f => f)
theorem str_sub {s : ByteArray} {i j : Nat} (h1 : i ≤ j) (h2 : j ≤ s.size) (W : World) : (Instr.slice 9 (.string s) (some (.int .i64 (i : Int))) (some (.int .i64 (j : Int))) none).run Tryz.prog W = .ok (.string (s.extract i j)) W := by
  have := run_slice_string (P := Tryz.prog) W 9 s .i64 .i64 (i : Int) (j : Int) Tryz.underlying9 (by omega) (by omega) (by omega)
  simpa using this
theorem str_from {s : ByteArray} {i : Nat} (h1 : i ≤ s.size) (W : World) : (Instr.slice 9 (.string s) (some (.int .i64 (i : Int))) none none).run Tryz.prog W = .ok (.string (s.extract i s.size)) W := by
  have := run_slice_string_from_if (P := Tryz.prog) W 9 s .i64 (i : Int) Tryz.underlying9
  rw [this, if_pos ⟨by omega, by omega⟩]
  simp
/-- The bytes from a place on, so many. -/
theorem ext_list (s : ByteArray) (i k : Nat) : (s.extract i (i + k)).data.toList = (s.data.toList.drop i).take k := by
  rw [Lib.extract_data, Nat.add_sub_cancel_left]
theorem ext_from (s : ByteArray) (i : Nat) : (s.extract i s.size).data.toList = s.data.toList.drop i := by
  rw [Lib.extract_data, str_len, List.take_of_length_le (by rw [List.length_drop]; exact Nat.le_refl _)]
def ztok : List Value := [.int .i64 0, .int .i64 0, .string ⟨#[]⟩, .int .i64 0]
def tokL (k i n : Int) (t : ByteArray) : List Value := [.int .i64 k, .int .i64 i, .string t, .int .i64 n]
/-- What find tells. -/
def FindPost (w : World) (s : ByteArray) (i : Nat) (e : Ending) (w' : World) : Prop :=
  (match findB (s.data.toList.drop i) with
   | none => e = .returned (.tuple #[.agg ztok.toArray, .bool false])
   | some t => e = .returned (.tuple #[.agg (tokL t.kind i t.n (s.extract i (i + t.len))).toArray, .bool true])) ∧ Turn (fun _ => False) w w'
/-- While a token is looked for. -/
structure FAt (w0 w : World) (sb rb eb tb : Nat) (s : ByteArray) (i e : Nat) (kd n : Int) : Prop where
  bx : Bx w eb sb e s
  bs : Blk w sb 9
  bt : Blk w tb 65
  tk : w.rangeAt tb 0 (tokL kd i n ⟨#[]⟩)
  br : Blk w rb 65
  rk : w.rangeAt rb 0 ztok
  er : ErrAt w
  tn : Turn (fun _ => False) w0 w
  ge : w0.heap.size ≤ sb ∧ w0.heap.size ≤ rb ∧ w0.heap.size ≤ eb ∧ w0.heap.size ≤ tb
  ne : rb ≠ tb
  e0 : 5 ≤ w0.heap.size
section
variable {w0 w w' : World} {sb rb eb tb i e : Nat} {s : ByteArray} {kd n : Int}
theorem FAt.same (h : FAt w0 w sb rb eb tb s i e kd n) (T : Turn (fun _ => False) w w') : FAt w0 w' sb rb eb tb s i e kd n :=
  ⟨h.bx.turn T (fun f => f) (fun f => f), h.bs.turn T (fun f => f), h.bt.turn T (fun f => f), range_turn h.tk T (fun f => f), h.br.turn T (fun f => f), range_turn h.rk T (fun f => f), h.er.turn T (fun f => f), h.tn.trans T, h.ge, h.ne, h.e0⟩
theorem FAt.onE (h : FAt w0 w sb rb eb tb s i e kd n) {e' : Nat} (X : Bx w' eb sb e' s) (T : Turn (fun k => k = eb) w w') : FAt w0 w' sb rb eb tb s i e' kd n := by
  have n1 : ¬ tb = eb := h.bt.ne h.bx.be (by decide)
  have n2 : ¬ rb = eb := h.br.ne h.bx.be (by decide)
  exact ⟨X, h.bs.turn T (h.bs.ne h.bx.be (by decide)), h.bt.turn T n1, range_turn h.tk T n1, h.br.turn T n2, range_turn h.rk T n2, h.er.turn T (by have := h.ge.2.2.1; have := h.e0; omega), h.tn.comp T (fun j hj e => by have := h.ge.2.2.1; omega), h.ge, h.ne, h.e0⟩
theorem FAt.onT (h : FAt w0 w sb rb eb tb s i e kd n) {kd' n' : Int} (B : Blk w' tb 65) (R : w'.rangeAt tb 0 (tokL kd' i n' ⟨#[]⟩)) (T : Turn (fun k => k = tb) w w') : FAt w0 w' sb rb eb tb s i e kd' n' := by
  have n1 : ¬ eb = tb := h.bx.be.ne h.bt (by decide)
  have n2 : ¬ sb = tb := h.bs.ne h.bt (by decide)
  exact ⟨h.bx.turn T n1 n2, h.bs.turn T n2, B, R, h.br.turn T h.ne, range_turn h.rk T h.ne, h.er.turn T (by have := h.ge.2.2.2; have := h.e0; omega), h.tn.comp T (fun j hj e => by have := h.ge.2.2.2; omega), h.ge, h.ne, h.e0⟩
theorem FAt.cells (h : FAt w0 w sb rb eb tb s i e kd n) : w.cell? ⟨tb, 0, none⟩ = some (.int .i64 kd) ∧ w.cell? ⟨tb, 1, none⟩ = some (.int .i64 (i : Int)) ∧ w.cell? ⟨tb, 2, none⟩ = some (.string ⟨#[]⟩) ∧ w.cell? ⟨tb, 3, none⟩ = some (.int .i64 n) :=
  ⟨h.tk 0 _ rfl, h.tk 1 _ rfl, h.tk 2 _ rfl, h.tk 3 _ rfl⟩
theorem tok_range {w : World} {tb : Nat} {a b d : Int} {c : ByteArray} (h0 : w.cell? ⟨tb, 0, none⟩ = some (.int .i64 a)) (h1 : w.cell? ⟨tb, 1, none⟩ = some (.int .i64 b)) (h2 : w.cell? ⟨tb, 2, none⟩ = some (.string c)) (h3 : w.cell? ⟨tb, 3, none⟩ = some (.int .i64 d)) : w.rangeAt tb 0 (tokL a b d c) := by
  intro j v hv
  have hj : j = 0 ∨ j = 1 ∨ j = 2 ∨ j = 3 := by
    have := (List.getElem?_eq_some_iff.1 hv).1
    simp [tokL] at this
    omega
  rcases hj with rfl | rfl | rfl | rfl <;> (simp [tokL] at hv; subst hv; rw [Nat.zero_add])
  · exact h0
  · exact h1
  · exact h2
  · exact h3
theorem FAt.setK (h : FAt w0 w sb rb eb tb s i e kd n) (k : Int) : FAt w0 (w.setCell ⟨tb, 0, none⟩ (.int .i64 k)) sb rb eb tb s i e k n := by
  obtain ⟨c0, c1, c2, c3⟩ := h.cells
  exact h.onT (h.bt.set _ _) (tok_range (World.cell?_setCell_same _ _ _ c0) ((cell_off _ _ _ _ _ (by decide)).trans c1) ((cell_off _ _ _ _ _ (by decide)).trans c2) ((cell_off _ _ _ _ _ (by decide)).trans c3)) (Turn.put _ _ _ _)
theorem FAt.setN (h : FAt w0 w sb rb eb tb s i e kd n) (k : Int) : FAt w0 (w.setCell ⟨tb, 3, none⟩ (.int .i64 k)) sb rb eb tb s i e kd k := by
  obtain ⟨c0, c1, c2, c3⟩ := h.cells
  exact h.onT (h.bt.set _ _) (tok_range ((cell_off _ _ _ _ _ (by decide)).trans c0) ((cell_off _ _ _ _ _ (by decide)).trans c1) ((cell_off _ _ _ _ _ (by decide)).trans c2) (World.cell?_setCell_same _ _ _ c3)) (Turn.put _ _ _ _)
end
theorem findB_kind {l : List UInt8} {t : Tok} (h : findB l = some t) : 1 ≤ t.kind := by
  cases l with
  | nil => simp [findB] at h
  | cons c r =>
    simp only [findB] at h
    split at h
    · injection h with h; subst h; exact Nat.le_refl 1
    · split at h
      · split at h
        · cases h
        · injection h with h; subst h; simp
      · split at h
        · split at h
          · injection h with h; subst h; simp
          · cases h
        · split at h
          · cases h
          · injection h with h; subst h; simp
/-- Four puts to a block behind the old world's. -/
def put4 (w : World) (b : Nat) (v0 v1 v2 v3 : Value) : World := (((w.setCell ⟨b, 0, none⟩ v0).setCell ⟨b, 1, none⟩ v1).setCell ⟨b, 2, none⟩ v2).setCell ⟨b, 3, none⟩ v3
theorem put4_turn {w0 w : World} {b : Nat} (T : Turn (fun _ => False) w0 w) (h : w0.heap.size ≤ b) (v0 v1 v2 v3 : Value) : Turn (fun _ => False) w0 (put4 w b v0 v1 v2 v3) := by
  have X : Turn (fun k => k = b) w (put4 w b v0 v1 v2 v3) := (((Turn.put _ _ _ _).trans (Turn.put _ _ _ _)).trans (Turn.put _ _ _ _)).trans (Turn.put _ _ _ _)
  exact T.comp X (fun j hj e => by omega)
def Good (s : ByteArray) (i e : Nat) (kd n : Int) : Prop := match findB (s.data.toList.drop i) with
  | none => kd = 0
  | some t => kd = t.kind ∧ n = t.n ∧ e = i + t.len
set_option maxRecDepth 100000 in
set_option maxHeartbeats 2000000 in
theorem find_is (w : World) (s : ByteArray) {i : Nat} (hi : i < s.size) (hs : s.size ≤ 140737488355328) (hE : ErrAt w) : Calls Tryz.prog 76 #[.string s, .int .i64 (i : Int)] w (FindPost w s i) := by
  obtain ⟨c, hc⟩ : ∃ c, s.data.toList[i]? = some c := ⟨_, List.getElem?_eq_getElem (by rw [← str_len]; exact hi)⟩
  have hx := str_at hc
  obtain ⟨W, hW⟩ : ∃ W, W = (((w.alloc (.cells #[.string s] 9)).alloc (.cells #[.int .i64 0, .int .i64 0, .string ⟨#[]⟩, .int .i64 0] 65)).alloc (.cells #[.int .i64 (i : Int)] 3)).alloc (.cells #[.int .i64 0, .int .i64 (i : Int), .string ⟨#[]⟩, .int .i64 0] 65) := ⟨_, rfl⟩
  have F0 : FAt w W w.heap.size (w.heap.size + 1) (w.heap.size + 1 + 1) (w.heap.size + 1 + 1 + 1) s i i 0 0 := by
    have T1 : Turn (fun _ => False) w (w.alloc (.cells #[.string s] 9)) := (Turn.refl _ w).alloc _
    have T2 := T1.alloc (.cells #[.int .i64 0, .int .i64 0, .string ⟨#[]⟩, .int .i64 0] 65)
    have T3 := T2.alloc (.cells #[.int .i64 (i : Int)] 3)
    have T4 := T3.alloc (.cells #[.int .i64 0, .int .i64 (i : Int), .string ⟨#[]⟩, .int .i64 0] 65)
    rw [hW]
    exact ⟨⟨(Blk.newA (by simp)).alloc _, past (cell_new (by simp) rfl), past (past (past (cell_new rfl rfl))), by omega⟩, (((Blk.newA rfl).alloc _).alloc _).alloc _, Blk.newA (by simp), fun j v hv => by rw [Nat.zero_add]; exact cell_new (by simp) (by simpa [tokL] using hv),
      ((Blk.newA (by simp)).alloc _).alloc _, fun j v hv => by rw [Nat.zero_add]; exact past (past (cell_new (by simp) (by simpa [ztok] using hv))), hE.turn T4 (fun f => f), T4, ⟨by omega, by omega, by omega, by omega⟩, by omega, hE.1⟩
  obtain ⟨r, hr⟩ : ∃ r, s.data.toList.drop i = c :: r := by
    have h0 : (s.data.toList.drop i)[0]? = some c := by rw [List.getElem?_drop]; exact hc
    cases hD : s.data.toList.drop i with
    | nil => rw [hD] at h0; cases h0
    | cons x r => rw [hD] at h0; simp at h0; subst h0; exact ⟨r, rfl⟩
  have HR := Lib.hid (And.intro hr (And.intro hi hs))
  have SM := Lib.hid (fun w => small_is w c)
  have DG := Lib.hid (fun w => digit_is w c)
  clear hc hr hi hs hE
  obtain ⟨m, hm⟩ : ∃ m : Int, m = (c.toNat : Int) := ⟨_, rfl⟩
  rw [← hm] at hx SM DG
  have HM := Lib.hid hm
  clear hm
  go_enter Tryz.func76, Tryz.ntmps76
  go_wp2_with fail
  go_step3
  go_upto_block 0 with fail
  rw [← hW]
  clear hW
  generalize w.heap.size + 1 + 1 + 1 = tb at *
  generalize w.heap.size + 1 + 1 = eb at *
  generalize w.heap.size + 1 = rb at *
  generalize w.heap.size = sb at *
  go_step3
  have cs := F0.bx.cs
  go_upto_block 0 with fail
  clear cs
  go_cut [] from 11 to 76 (fun wx => ∃ e kd n, FAt w wx sb rb eb tb s i e kd n ∧ Good s i e kd n)
  case first =>
    have cs := F0.bx.cs
    have ce := F0.bx.ce
    obtain ⟨t0, t1, t2, t3⟩ := F0.cells
    have fzt := F0.bt.fz
    have fze := F0.bx.be.fz
    by_cases hsm : isSmall c = true
    · have SM1 := SM.out W
      rw [hsm] at SM1
      have SM1 := Lib.hid SM1
      have F1 := F0.setK 1
      have WH := Lib.hid (while37_is _ F1.bx (Nat.le_of_lt HR.out.2.1) HR.out.2.2)
      have hf : Good s i (i + spanB isWord (s.data.toList.drop i)) 1 0 := by
        unfold Good
        rw [HR.out.1]
        have : findB (c :: r) = some ⟨1, spanB isWord (c :: r), 0⟩ := by simp only [findB]; rw [if_pos hsm]
        rw [this]
        exact ⟨rfl, rfl, rfl⟩
      have HF := Lib.hid hf
      have FF := Lib.hid F1
      clear F0 F1 hsm hf
      go_wp2_with fail
      with_reducible refine SM1.out.mono ?_
      rintro e w1 ⟨rfl, rfl⟩
      go_wp2_with fail
      with_reducible refine WH.out.mono ?_
      rintro e w2 ⟨rfl, BX, TX⟩
      have FIN := Lib.hid (FF.out.onE BX TX)
      clear BX TX
      go_wp2_with fail
      go_meet
      case rel => exact ⟨_, _, _, FIN.out, HF.out⟩
    · have SM1 := SM.out W
      rw [Bool.eq_false_iff.2 hsm] at SM1
      have SM1 := Lib.hid SM1
      have HSM := Lib.hid hsm
      clear hsm
      by_cases hcap : 65 ≤ c.toNat ∧ c.toNat < 73
      · have v1 : decide ((65 : Int) ≤ m) = true := decide_eq_true (by have := HM.out; omega)
        have v2 : decide (m < 73) = true := decide_eq_true (by have := HM.out; omega)
        have F1 := F0.onE (F0.bx.put (i + 1)) (Turn.put _ _ _ _)
        have hdr : s.data.toList.drop (i + 1) = r := by rw [← List.drop_drop, HR.out.1]; rfl
        have EN := ends39_is _ F1.bx HR.out.2.1
        rw [hdr] at EN
        have EN := Lib.hid EN
        have hw : wrap64 ((i : Int) + 1) = ((i + 1 : Nat) : Int) := by have := HR.out.2.1; have := HR.out.2.2; unfold wrap64; omega
        have hfb : findB (c :: r) = if headB isBoth r then none else some ⟨2, 1, c.toNat - 65⟩ := by
          simp only [findB]
          rw [if_neg HSM.out, if_pos hcap]
        obtain ⟨p, hp⟩ : ∃ p : Int, p = ((i + 1 : Nat) : Int) := ⟨_, rfl⟩
        rw [← hp] at hw EN F1
        clear hdr hp
        cases hb : headB isBoth r with
        | true =>
          rw [hb] at EN hfb
          have hf : Good s i (i + 1) 0 0 := by
            unfold Good
            rw [HR.out.1, hfb]
            rfl
          have HF := Lib.hid hf
          have FF := Lib.hid F1
          have EN := Lib.hid EN.out
          clear F0 F1 hf hfb hb hcap
          go_wp2_with fail
          with_reducible refine SM1.out.mono ?_
          rintro e w1 ⟨rfl, rfl⟩
          go_wp2_with fail
          with_reducible refine EN.out.mono ?_
          rintro e w2 ⟨rfl, rfl⟩
          go_wp2_with fail
          go_meet
          case rel => exact ⟨_, _, _, FF.out, HF.out⟩
        | false =>
          rw [hb] at EN hfb
          obtain ⟨k, hk⟩ : ∃ k : Int, k = m - 65 := ⟨_, rfl⟩
          have hf : Good s i (i + 1) 2 k := by
            unfold Good
            rw [HR.out.1, hfb]
            exact ⟨rfl, by rw [hk, HM.out]; show (c.toNat : Int) - 65 = ((c.toNat - 65 : Nat) : Int); omega, rfl⟩
          have HF := Lib.hid hf
          have F2 := (F1.setK 2).setN k
          have FF := Lib.hid F2
          obtain ⟨y0, y1, y2, y3⟩ := F1.cells
          have fz1 := F1.bt.fz
          have EN := Lib.hid EN.out
          have q8 : IntKind.u8.wrap (m - 65) = k := by have := HM.out; have := (u8 c).2; rw [IntKind.wrap]; simp [IntKind.bits, IntKind.signed]; omega
          have q9 : wrap64 k = k := by have := HM.out; have := (u8 c).2; unfold wrap64; omega
          clear F0 F1 F2 hf hfb hb hcap hk
          go_wp2_with fail
          with_reducible refine SM1.out.mono ?_
          rintro e w1 ⟨rfl, rfl⟩
          go_wp2_with fail
          with_reducible refine EN.out.mono ?_
          rintro e w2 ⟨rfl, rfl⟩
          go_wp2_with fail
          go_meet
          case rel => exact ⟨_, _, _, FF.out, HF.out⟩
      · have hcap' := Lib.hid hcap
        by_cases hdg : isDigit c = true
        · have hd2 : 48 ≤ c.toNat ∧ c.toNat ≤ 57 := by simpa [isDigit] using hdg
          have v1 : decide ((65 : Int) ≤ m) = false := decide_eq_false (by have := HM.out; omega)
          have DG1 := DG.out W
          rw [hdg] at DG1
          have DG1 := Lib.hid DG1
          have WH := while38_is _ F0.bx (Nat.le_of_lt HR.out.2.1) HR.out.2.2
          obtain ⟨k, hk⟩ : ∃ k, k = spanB isDigit (c :: r) := ⟨_, rfl⟩
          rw [HR.out.1, ← hk] at WH
          have hkl : i + k ≤ s.size := by
            have := spanB_le isDigit (s.data.toList.drop i)
            rw [HR.out.1, ← hk, ← HR.out.1, List.length_drop, ← str_len] at this
            have := HR.out.2.1
            omega
          have WH := Lib.hid WH
          have hsub := ext_list s i k
          rw [HR.out.1] at hsub
          have hk1 : 1 ≤ k := by rw [hk]; simp [spanB, hdg]
          obtain ⟨r', hr'⟩ : ∃ r', (c :: r).take k = c :: r' := ⟨r.take (k - 1), by obtain ⟨k', rfl⟩ : ∃ k', k = k' + 1 := ⟨k - 1, by omega⟩; simp⟩
          have hall : ∀ x ∈ c :: r', isDigit x = true := by
            rw [← hr']
            intro x hx
            obtain ⟨j, hj⟩ := List.getElem?_of_mem hx
            have hjk : j < k := by
              have := (List.getElem?_eq_some_iff.1 hj).1
              rw [List.length_take] at this
              omega
            rw [List.getElem?_take_of_lt hjk] at hj
            exact spanB_all isDigit (c :: r) j x (by rw [← hk]; exact hjk) hj
          have hfb : findB (c :: r) = if decV 0 (c :: r') < 9223372036854775808 ∧ headB isLetter ((c :: r).drop k) = false then some ⟨3, k, decV 0 (c :: r')⟩ else none := by
            simp only [findB]
            rw [if_neg HSM.out, if_neg hcap'.out, if_pos hdg, ← hk, hr']
          have hss := str_sub (s := s) (i := i) (j := i + k) (by omega) hkl
          have hsz : (s.extract i (i + k)).size ≤ 140737488355328 := by
            rw [str_len, hsub, List.length_take]
            have := HR.out.2.2
            omega
          rw [hr'] at hsub
          have hdr : s.data.toList.drop (i + k) = (c :: r).drop k := by rw [← List.drop_drop, HR.out.1]
          have PO := Lib.hid (fun (w : World) (hv : decV 0 (c :: r') < 9223372036854775808) => parse_ok w hsub hall hv hsz)
          have PN := Lib.hid (fun (w : World) (hv : ¬ decV 0 (c :: r') < 9223372036854775808) (hE : ErrAt w) => parse_no w hsub hall hv hsz hE)
          have FF := Lib.hid F0
          have HFB := Lib.hid hfb
          have HK := Lib.hid (And.intro hkl hdr)
          have K0 := Lib.hid (fun W => ends40_is (eb := eb) (sb := sb) (e := i + k) (s := s) W)
          generalize s.extract i (i + k) = sub at *
          obtain ⟨p, hp⟩ : ∃ p : Int, p = ((i + k : Nat) : Int) := ⟨_, rfl⟩
          rw [← hp] at hss
          have HP := Lib.hid hp
          clear F0 hdg hd2 hk hkl hsub hk1 hr' hall hfb hsz hdr hcap hp
          go_wp2_with fail
          with_reducible refine SM1.out.mono ?_
          rintro e w1 ⟨rfl, rfl⟩
          go_wp2_with fail
          with_reducible refine DG1.out.mono ?_
          rintro e w1 ⟨rfl, rfl⟩
          go_wp2_with fail
          with_reducible refine WH.out.mono ?_
          rintro e W2 ⟨rfl, BX, TX⟩
          have F2 := FF.out.onE BX TX
          have cs2 := BX.cs
          have ce2 := BX.ce
          rw [← HP.out] at ce2
          have FF2 := Lib.hid F2
          clear BX TX F2 cs ce t0 t1 t2 t3 fzt fze
          by_cases hv : decV 0 (c :: r') < 9223372036854775808
          · have PO1 := Lib.hid (PO.out W2 hv)
            go_wp2_with fail
            with_reducible refine PO1.out.mono ?_
            rintro e W3 ⟨rfl, T3⟩
            have F3 := FF2.out.same T3
            have EN := K0.out W3 F3.bx HK.out.1
            rw [HK.out.2] at EN
            cases hl : headB isLetter ((c :: r).drop k) with
            | true =>
              rw [hl] at EN
              have hf : Good s i (i + k) 0 0 := by
                unfold Good
                rw [HR.out.1, HFB.out, if_neg (fun e => by rw [hl] at e; cases e.2)]
              have HF := Lib.hid hf
              have EN := Lib.hid EN
              have FF3 := Lib.hid F3
              clear hf F3 hl hv T3
              go_wp2_with fail
              with_reducible refine EN.out.mono ?_
              rintro e w2 ⟨rfl, rfl⟩
              go_wp2_with fail
              go_meet
              case rel => exact ⟨_, _, _, FF3.out, HF.out⟩
            | false =>
              rw [hl] at EN
              obtain ⟨v, hv'⟩ : ∃ v : Int, v = (decV 0 (c :: r') : Int) := ⟨_, rfl⟩
              have hf : Good s i (i + k) 3 v := by
                unfold Good
                rw [HR.out.1, HFB.out, if_pos ⟨hv, hl⟩]
                exact ⟨rfl, hv', rfl⟩
              have HF := Lib.hid hf
              have EN := Lib.hid EN
              have F4 := (F3.setK 3).setN v
              have FF4 := Lib.hid F4
              obtain ⟨y0, y1, y2, y3⟩ := F3.cells
              have fz3 := F3.bt.fz
              rw [← hv']
              clear hf F3 F4 hl hv T3 hv'
              go_wp2_with fail
              with_reducible refine EN.out.mono ?_
              rintro e w2 ⟨rfl, rfl⟩
              go_wp2_with fail
              go_meet
              case rel => exact ⟨_, _, _, FF4.out, HF.out⟩
          · have PN1 := Lib.hid (PN.out W2 hv FF2.out.er)
            go_wp2_with fail
            with_reducible refine PN1.out.mono ?_
            rintro e W3 ⟨⟨v, N, rfl⟩, T3⟩
            have F3 := FF2.out.same T3
            have hf : Good s i (i + k) 0 0 := by
              unfold Good
              rw [HR.out.1, HFB.out, if_neg (fun e => hv e.1)]
            have HF := Lib.hid hf
            have FF3 := Lib.hid F3
            clear hf F3 hv T3
            go_wp2_with fail
            go_meet
            case rel => exact ⟨_, _, _, FF3.out, HF.out⟩
        · have DG1 := DG.out W
          rw [Bool.eq_false_iff.2 hdg] at DG1
          have DG1 := Lib.hid DG1
          have HDG := Lib.hid hdg
          have hfb : findB (c :: r) = if signB (c :: r) = 0 then none else some ⟨4, signB (c :: r), 0⟩ := by
            simp only [findB]
            rw [if_neg HSM.out, if_neg hcap'.out, if_neg HDG.out]
          have hsl := signB_le (c :: r)
          have hlen : i + signB (c :: r) ≤ s.size := by
            have : (s.data.toList.drop i).length = s.size - i := by rw [List.length_drop, ← str_len]
            rw [HR.out.1] at this
            have := HR.out.2.1
            omega
          have hss := str_from (s := s) (i := i) (Nat.le_of_lt HR.out.2.1)
          have hsub := ext_from s i
          rw [HR.out.1] at hsub
          have SG := Lib.hid (fun W => sign_is W hsub)
          generalize s.extract i s.size = sub at *
          have HFB := Lib.hid hfb
          obtain ⟨k, hk⟩ : ∃ k, k = signB (c :: r) := ⟨_, rfl⟩
          rw [← hk] at SG HFB hlen
          have hw : wrap64 ((i : Int) + (k : Int)) = ((i + k : Nat) : Int) := by have := HR.out.2.1; have := HR.out.2.2; unfold wrap64; omega
          obtain ⟨V, hV⟩ : ∃ V, V = W.drew := ⟨_, rfl⟩
          have TV : Turn (fun _ => False) W V := by rw [hV]; exact (Turn.refl _ W).drewN 1
          have FV := F0.same TV
          have zce : W.drew.cell? ⟨eb, 0, none⟩ = some (.int .i64 (i : Int)) := by rw [← hV]; exact FV.bx.ce
          have zcs : W.drew.cell? ⟨sb, 0, none⟩ = some (.string s) := by rw [← hV]; exact FV.bx.cs
          have yce := FV.bx.ce
          have ycs := FV.bx.cs
          have F1 := FV.onE (FV.bx.put (i + k)) (Turn.put _ _ _ _)
          obtain ⟨y0, y1, y2, y3⟩ := F1.cells
          have fz1 := F1.bt.fz
          have ce1 := F1.bx.ce
          have fz0 := FV.bx.be.fz
          obtain ⟨p, hp⟩ : ∃ p : Int, p = ((i + k : Nat) : Int) := ⟨_, rfl⟩
          obtain ⟨kk, hkk⟩ : ∃ kk : Int, kk = (k : Int) := ⟨_, rfl⟩
          rw [← hp] at hw y0 y1 y2 y3 fz1 ce1 F1
          rw [← hkk] at hw SG
          have HP := Lib.hid hp
          have hcc : (decide ((65 : Int) ≤ m) = false) ∨ (decide ((65 : Int) ≤ m) = true ∧ decide (m < 73) = false) := by
            have := HM.out
            by_cases h65 : 65 ≤ c.toNat
            · exact .inr ⟨decide_eq_true (by omega), decide_eq_false (fun e => hcap'.out ⟨h65, by omega⟩)⟩
            · exact .inl (decide_eq_false (by omega))
          have FF1 := Lib.hid F1
          have F2 := Lib.hid (F1.setK 4)
          clear F0 FV TV F1 hdg hfb hsl hlen hsub hk hp hkk hcap cs ce t0 t1 t2 t3 fzt fze
          rcases hcc with v1 | ⟨v1, v2⟩
          all_goals
            go_wp2_with fail
            with_reducible refine SM1.out.mono ?_
            rintro e w1 ⟨rfl, rfl⟩
            go_wp2_with fail
            with_reducible refine DG1.out.mono ?_
            rintro e w1 ⟨rfl, rfl⟩
            go_wp2_with fail
            refine lany_start 6 (fun zb w' => zb = false → (fun w' => w'.cell? ⟨eb, 0, none⟩ = some (.int .i64 (i : Int)) ∧ w'.cell? ⟨sb, 0, none⟩ = some (.string s)) w') (by kernel_rfl) ?hs0 (fun hS0 => ?_)
            case hs0 => exact fun _ => ⟨zce, zcs⟩
            rw [← hV] at hS0 ⊢
            clear hV
            refine LAny.take (i := 0) (oi := { dst := some 21, op := Op.load 3 (Operand.tmp 6), type := 3, pos := "lex.go:85", after := #[], guard := none }) (v := ?_) rfl (by kernel_rfl) (by kernel_rfl) (by kernel_rfl) (by kernel_rfl) (fun _ _ _ h => h) (Or.inl ⟨by rfl, ?hy1⟩) hS0 ?_
            case hy1 => (intro w hSw; have hSw := hSw rfl; (try dsimp only at hSw); go_simp; try with_reducible rfl)
            try simp only [Act.put, List.setIfInBounds_toArray, List.set_cons_zero, List.set_cons_succ]
            refine LAny.take (i := 1) (oi := { dst := some 22, op := Op.load 9 (Operand.tmp 2), type := 9, pos := "lex.go:85", after := #[], guard := none }) (v := ?_) rfl (by kernel_rfl) (by kernel_rfl) (by kernel_rfl) (by kernel_rfl) (fun _ _ _ h => h) (Or.inl ⟨by rfl, ?hy2⟩) hS0 ?_
            case hy2 => (intro w hSw; have hSw := hSw rfl; (try dsimp only at hSw); go_simp; try with_reducible rfl)
            try simp only [Act.put, List.setIfInBounds_toArray, List.set_cons_zero, List.set_cons_succ]
            refine LAny.take (i := 2) (oi := { dst := some 23, op := Op.move (Operand.tmp 1), type := 3, pos := "lex.go:85", after := #[], guard := none }) (v := ?_) rfl (by kernel_rfl) (by kernel_rfl) (by kernel_rfl) (by kernel_rfl) (fun _ _ _ h => h) (Or.inl ⟨by rfl, ?hy3⟩) hS0 ?_
            case hy3 => (intro w hSw; have hSw := hSw rfl; (try dsimp only at hSw); go_simp; try with_reducible rfl)
            try simp only [Act.put, List.setIfInBounds_toArray, List.set_cons_zero, List.set_cons_succ]
            refine LAny.take (i := 3) (oi := { dst := some 24, op := Op.slice 9 (Operand.tmp 22) (some (Operand.tmp 23)) none none, type := 9, pos := "lex.go:85", after := #[{ on := 1, ground := Ground.data }, { on := 2, ground := Ground.data }], guard := none }) (v := ?_) rfl (by kernel_rfl) (by kernel_rfl) (by kernel_rfl) (by kernel_rfl) (fun _ _ _ h => h) (Or.inl ⟨by rfl, ?hy4⟩) hS0 ?_
            case hy4 => (intro w hSw; have hSw := hSw rfl; (try dsimp only at hSw); go_simp; try with_reducible rfl)
            try simp only [Act.put, List.setIfInBounds_toArray, List.set_cons_zero, List.set_cons_succ]
            refine LAny.one (i := 4) (o := { dst := some 25, op := Op.call { callee := Callee.value (Operand.func 97), args := #[Operand.tmp 24], argTypes := #[9] }, type := 3, pos := "lex.go:85", after := #[{ on := 3, ground := Ground.data }], guard := none }) (b := false) (by kernel_rfl) rfl (by kernel_rfl) (fun K hK => ?_)
            go_simp
            with_reducible refine (SG.out _).mono ?_
            rintro e wz ⟨rfl, rfl⟩
            go_simp
            refine hK.out _ _ ?hs5 (fun hS5 => ?_)
            case hs5 => exact fun _ => ⟨yce, ycs⟩
            clear hK K hS0
            refine LAny.take (i := 5) (oi := { dst := some 26, op := Op.binOp BinOp.add 3 (Operand.tmp 21) (Operand.tmp 25) 3, type := 3, pos := "lex.go:85", after := #[{ on := 0, ground := Ground.data }, { on := 4, ground := Ground.data }], guard := none }) (v := ?_) rfl (by kernel_rfl) (by kernel_rfl) (by kernel_rfl) (by kernel_rfl) (fun _ _ _ h => h) (Or.inl ⟨by rfl, ?hy6⟩) hS5 ?_
            case hy6 => (intro w hSw; have hSw := hSw rfl; (try dsimp only at hSw); go_simp; try with_reducible rfl)
            try simp only [Act.put, List.setIfInBounds_toArray, List.set_cons_zero, List.set_cons_succ]
            refine LAny.one (i := 6) (o := { dst := none, op := Op.store 3 (Operand.tmp 6) (Operand.tmp 26), type := 0, pos := "lex.go:85", after := #[{ on := 5, ground := Ground.data }, { on := 4, ground := Ground.chain }, { on := 0, ground := Ground.phase }, { on := 1, ground := Ground.phase }, { on := 2, ground := Ground.phase }, { on := 3, ground := Ground.phase }, { on := 4, ground := Ground.phase }, { on := 5, ground := Ground.phase }], guard := none }) (b := true) (by kernel_rfl) rfl (by kernel_rfl) (fun K hK => ?_)
            go_simp
            refine hK.out _ _ ?hs7 (fun hS7 => ?_)
            case hs7 => exact fun h => by cases h
            clear hK K hS5
            refine LAny.done (by kernel_rfl) ?_ _
            rw [show IntKind.i64.wrap ((i : Int) + kk) = p from by have h9 := hw; unfold wrap64 at h9; exact (IntKind.wrap_i64 _).trans h9]
            clear zce zcs yce ycs fz0 SG
            by_cases hk0 : k = 0
            · have q : (p == (i : Int)) = true := by rw [HP.out, hk0]; simp
              have hf : Good s i (i + k) 0 0 := by
                unfold Good
                rw [HR.out.1, HFB.out, if_pos hk0]
              have HF := Lib.hid hf
              clear hf hk0
              go_wp2_with fail
              go_meet
              case rel => exact ⟨_, _, _, FF1.out, HF.out⟩
            · have q : (p == (i : Int)) = false := by rw [HP.out]; simp; omega
              have hf : Good s i (i + k) 4 0 := by
                unfold Good
                rw [HR.out.1, HFB.out, if_neg hk0]
                exact ⟨rfl, rfl, rfl⟩
              have HF := Lib.hid hf
              clear hf hk0
              go_wp2_with fail
              go_meet
              case rel => exact ⟨_, _, _, F2.out, HF.out⟩
  case rest =>
    obtain ⟨e, kd, n, F, G⟩ := hcut
    obtain ⟨y0, y1, y2, y3⟩ := F.cells
    have fzt := F.bt.fz
    have fzr := F.br.fz
    have ycs := F.bx.cs
    have yce := F.bx.ce
    have yr := F.rk
    have yt := F.tk
    have r0 : wc.cell? ⟨rb, 0, none⟩ = some (.int .i64 0) := yr 0 _ rfl
    have r1 : wc.cell? ⟨rb, 1, none⟩ = some (.int .i64 0) := yr 1 _ rfl
    have r2 : wc.cell? ⟨rb, 2, none⟩ = some (.string ⟨#[]⟩) := yr 2 _ rfl
    have r3 : wc.cell? ⟨rb, 3, none⟩ = some (.int .i64 0) := yr 3 _ rfl
    have hne := F.ne
    unfold Good at G
    cases hB : findB (s.data.toList.drop i) with
    | none =>
      rw [hB] at G
      have HB := Lib.hid hB
      obtain rfl : kd = 0 := G
      have FIN := Lib.hid (put4_turn F.tn F.ge.2.1 (.int .i64 0) (.int .i64 0) (.string ⟨#[]⟩) (.int .i64 0))
      clear F0 F hne
      go_wp2_with fail
      refine bodyPost_ret (by rw [results_cell_tmp rfl]; go_simp; rfl) rfl ?_
      exact ⟨by rw [HB.out]; rfl, FIN.out⟩
    | some t =>
      rw [hB] at G
      obtain ⟨rfl, rfl, rfl⟩ := G
      have q : ((t.kind : Int) == 0) = false := by have := findB_kind hB; simp; omega
      have hss := str_sub (s := s) (i := i) (j := i + t.len) (by omega) (by have := (findB_len hB).2; rw [List.length_drop, ← str_len] at this; have := HR.out.2.1; omega)
      obtain ⟨p, hp⟩ : ∃ p : Int, p = ((i + t.len : Nat) : Int) := ⟨_, rfl⟩
      rw [← hp] at hss yce
      obtain ⟨tk, htk⟩ : ∃ x : Int, x = (t.kind : Int) := ⟨_, rfl⟩
      obtain ⟨tn, htn⟩ : ∃ x : Int, x = (t.n : Int) := ⟨_, rfl⟩
      rw [← htk] at y0 q
      rw [← htn] at y3
      have T1 : Turn (fun _ => False) w (wc.setCell ⟨tb, 2, none⟩ (.string (s.extract i (i + t.len)))) := F.tn.comp (Turn.put _ _ _ _) (fun j hj e => by have := F.ge.2.2.2; omega)
      have FIN := (put4_turn T1 F.ge.2.1 (.int .i64 tk) (.int .i64 (i : Int)) (.string (s.extract i (i + t.len))) (.int .i64 tn))
      obtain ⟨sub, hsb⟩ : ∃ x, x = s.extract i (i + t.len) := ⟨_, rfl⟩
      rw [← hsb] at hss FIN
      have FIN := Lib.hid FIN
      have HQ := Lib.hid (And.intro hB (And.intro htk (And.intro htn hsb)))
      clear F0 F T1 yt yr hp htk htn hB hsb
      go_wp2_with fail
      refine bodyPost_ret (by rw [results_cell_tmp rfl]; go_simp; rfl) rfl ?_
      exact ⟨by rw [HQ.out.1, HQ.out.2.1, HQ.out.2.2.1, HQ.out.2.2.2]; rfl, FIN.out⟩
end Go.Proofs.YtadogobdlcionaaGreatDoor
