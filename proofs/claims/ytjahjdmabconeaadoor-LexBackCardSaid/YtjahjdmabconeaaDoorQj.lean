/-
  What Each tells, collected.
-/
import Derived.Test.YtjahjdmabconeaaDoorQi
import Derived.Test.YtjahjdmabconeaaDoorPi
namespace Go.Proofs.YtjahjdmabconeaaDoor
open Go.ChangeShapes Go.WideShapes Go.ChangeAt Go.RowKit Go.Shelf
set_option linter.unusedVariables false
attribute [local go_sem] Oper.semAt_some
theorem eachB_len : ∀ (f i : Nat) (l : List UInt8), i ≤ l.length → (eachB f i l).length + i ≤ l.length
  | 0, i, l, h => by simp [eachB]; exact h
  | f + 1, i, l, h => by
    cases hB : findB (l.drop (skipB i l)) with
    | none => rw [eachB_none hB]; simp; exact h
    | some t =>
      have h1 := findB_len hB
      have h2 := skipB_le h
      have h3 := skip_ge i l
      rw [List.length_drop] at h1
      rw [eachB_some hB]
      have := eachB_len f (skipB i l + t.len) l (by omega)
      simp only [List.length_cons]
      omega
theorem toks_len (s : ByteArray) : (toksB s.data.toList).length ≤ s.size := by
  have := eachB_len (s.data.toList.length + 1) 0 s.data.toList (Nat.zero_le _)
  rw [str_len]
  unfold toksB
  omega
/-- What lies there between two tokens. -/
structure EcI (w W : World) (s : ByteArray) (v : Value) (pre : List (Nat × Tok)) (m : Nat) : Prop where
  l : Blk W w.heap.size 26 ∧ W.cell? ⟨w.heap.size, 0, none⟩ = some v
  own : W.ownsRow (w.heap.size + 2) 30 4 v pre.length (toksC s pre)
  low : ∀ k, v.ownBlock = some k → k < m
  tn : Turn (fun _ => False) w W
def EcJ (w : World) (s : ByteArray) (q : List (Nat × Tok) × Nat) (W : World) : Prop := ∃ v, EcI w W s v q.1 q.2 ∧ w.heap.size + 2 ≤ q.2
section
variable {w W W' : World} {m : Nat} {s : ByteArray} {v : Value} {pre : List (Nat × Tok)}
theorem EcI.turn {S : Nat → Prop} (h : EcI w W s v pre m) (T : Turn S W W') (hS : ∀ k, S k → w.heap.size ≤ k) (h0 : ¬ S w.heap.size) (ho : ∀ k, v.ownBlock = some k → ¬ S k) : EcI w W' s v pre m :=
  ⟨⟨h.l.1.turn T h0, T.cell h0 h.l.2⟩, own_turn h.own T ho, h.low, h.tn.comp T (fun i hi q => by have := hS i q; omega)⟩
theorem EcI.bears (h : EcI w W s v pre m) {row : Option Nat} (g : W.grownBy W' row) (hm : w.heap.size + 1 ≤ m) (hr : ∀ r, row = some r → m ≤ r) : EcI w W' s v pre m := by
  refine h.turn (grown_turn' g) (fun k e => by have := hr k e; omega) ?_ (fun k hk e => by have := hr k e; have := h.low k hk; omega)
  intro e
  have := hr _ e
  omega
theorem EcI.own' (h : EcI w W s v pre m) {row : Option Nat} (g : W.grownBy W' row) (hr : ∀ r, row = some r → w.heap.size + 1 ≤ r ∧ ∃ o, W.heap[r]? = some o ∧ o.isCells = false) : EcI w W' s v pre m := by
  refine h.turn (grown_turn' g) (fun k e => by have := (hr k e).1; omega) ?_ (fun k hk e => by
    obtain ⟨_, o, ho, hc⟩ := hr k e
    obtain ⟨⟨cs, hb⟩, _⟩ := own_blk h.own hk
    rw [ho] at hb
    cases hb
    cases hc)
  intro e
  have := (hr _ e).1
  omega
/-- One more token. -/
theorem EcI.push (h : EcI w W s v pre m) (h6 : w.heap.size + 2 ≤ m) (mW : m ≤ W.heap.size) (x : Nat × Tok) (hl : pre.length ≤ 1000000) :
    ∃ a' c' W2, (Builtin.append_ #[26, 26] 26 #[v, .slice (some ⟨W.heap.size, 0, none⟩) 1 1]).run Tryd.prog (W.alloc (.cells #[.int .i64 (x.2.kind : Int), .int .i64 (x.1 : Int), .string (s.extract x.1 (x.1 + x.2.len)), .int .i64 (x.2.n : Int)] 30)) = .ok (.slice a' (pre.length + 1) c') W2 ∧
      Turn (fun k => v.ownBlock = some k) W W2 ∧ EcI w (W2.setCell ⟨w.heap.size, 0, none⟩ (.slice a' (pre.length + 1) c')) s (.slice a' (pre.length + 1) c') (pre ++ [x]) W2.heap.size := by
  obtain ⟨v', W2, hr, ho, T⟩ := tok_add h.own hl (by omega) (x.2.kind : Int) (x.1 : Int) (x.2.n : Int) (s.extract x.1 (x.1 + x.2.len))
  have own6 : ∀ k, v.ownBlock = some k → w.heap.size + 2 ≤ k := fun k hk => (own_blk h.own hk).2
  obtain ⟨a', c', rfl, -⟩ := own_slice ho
  have nn : ¬ v.ownBlock = some w.heap.size := fun e => by have := own6 _ e; omega
  have T2 := Turn.put W2 w.heap.size 0 (.slice a' (pre.length + 1) c')
  refine ⟨a', c', W2, hr, T, ⟨(h.l.1.turn T nn).set _ _, World.cell?_setCell_same _ _ _ (T.cell nn h.l.2)⟩, ?_, fun k hk => (own_blk ho hk).1.lt, ?_⟩
  · rw [List.length_append, toksC_snoc]
    exact own_turn ho T2 (fun k hk q => by have := (own_blk ho hk).2; omega)
  · exact (h.tn.comp T (fun i hi e => by have := own6 i e; omega)).comp T2 (fun i hi e => by omega)
end
theorem res_tmp1 {fn : Func} {tmps : Array Value} {w : World} {k : Nat} {v : Value} (hr : fn.results = #[.tmp k]) (hk : tmps.getD k undef = v) : (results fn tmps).run Tryd.prog w = .ok v w := by
  unfold results
  rw [hr]
  simp only [List.mapM_toArray, List.mapM_cons, List.mapM_nil, bind_assoc, pure_bind, map_eq_pure_bind, hk]
  simp
theorem func_nil (a : Value) (W : World) : (binOp BinOp.eql 45 (.func (.func 25) #[] #[a]) .nilFunc).run Tryd.prog W = .ok (.bool false) W := by kernel_rfl
/-- What comes of it. -/
def ColPost (w : World) (s : ByteArray) (e : Ending) (w' : World) : Prop :=
  Turn (fun _ => False) w w' ∧ ∃ v, e = .returned v ∧ w'.ownsRow w.heap.size 30 4 v (toksB s.data.toList).length (toksC s (toksB s.data.toList))
set_option maxRecDepth 100000 in
set_option maxHeartbeats 4000000 in
theorem col_in (n : Nat) (hn : 6 ≤ n) (w : World) (s : ByteArray) (hs : s.size ≤ 1000000) (hE : ErrAt w) : CallsIn Fence.wide n Tryd.prog 11 #[.string s] w (ColPost w s) := by
  obtain ⟨W0, hW0⟩ : ∃ W, W = w.alloc (.cells #[.slice none 0 0] 26) := ⟨_, rfl⟩
  obtain ⟨W1, hW1⟩ : ∃ W, W = W0.alloc (.cells #[.string s] 9) := ⟨_, rfl⟩
  have T0 : Turn (fun _ => False) w W0 := by rw [hW0]; exact (Turn.refl _ w).alloc _
  have T1 : Turn (fun _ => False) W0 W1 := by rw [hW1]; exact (Turn.refl _ _).alloc _
  have z0 : W0.heap.size = w.heap.size + 1 := by rw [hW0]; simp
  have z1 : W1.heap.size = w.heap.size + 2 := by rw [hW1]; simp [z0]
  have I0 : EcI w W0 s (.slice none 0 0) [] (w.heap.size + 2 + 2) := by
    rw [hW0]
    exact ⟨⟨Blk.newA rfl, cell_new rfl rfl⟩, World.ownsRow_nil _ _ _ _, fun k e => by simp [Value.ownBlock] at e, by rw [← hW0]; exact T0⟩
  have I1 : EcI w W1 s (.slice none 0 0) [] (w.heap.size + 2 + 2) := I0.turn T1 (fun k f => f.elim) id (fun _ _ f => f)
  have BS : Blk W1 W0.heap.size 9 := by rw [hW1]; exact Blk.newA rfl
  have CS : W1.cell? ⟨W0.heap.size, 0, none⟩ = some (.string s) := by rw [hW1]; exact cell_new rfl rfl
  have E1 : ErrAt W1 := (hE.turn T0 (fun f => f)).turn T1 (fun f => f)
  have GV := Lib.hid (fun (m : Nat) (hm : 1 ≤ m) => each_gives m hm (Nat.le_trans hs (by decide)) BS CS E1 (by have := hE.1; omega))
  have EA := Lib.hid (each_is W0 s)
  have HI := Lib.hid (And.intro I1 (And.intro hE.1 (And.intro z0 z1)))
  have HS := Lib.hid (toks_len s)
  have HS2 := Lib.hid hs
  clear I0 I1 T0 T1 BS CS E1 hE hs
  refine callsIn_of_wp_marks Tryd.func11 rfl trivial ?_ rfl
  simp only [Tryd.ntmps11, List.size_toArray, List.length_cons, List.length_nil, Nat.reduceAdd, Nat.reduceSub, Array.replicate_succ, Array.replicate_zero, List.push_toArray, List.append_toArray, List.nil_append, List.cons_append]
  gi_wp2_with fail
  rw [← hW0]
  clear hW0
  obtain ⟨sb, hsb⟩ : ∃ b, b = W0.heap.size := ⟨_, rfl⟩
  rw [← hsb] at GV EA
  have HSB := Lib.hid hsb
  clear hsb
  obtain ⟨N, hN⟩ : ∃ N, N = w.heap.size := ⟨_, rfl⟩
  rw [← hN]
  have HB := Lib.hid hN
  clear hN
  refine ⟨trivial, fun _ => by omega, ?_⟩
  refine (callsIn_wide.2 EA.out).mono ?_
  rintro e w1 ⟨rfl, hw1⟩
  rw [← hW1] at hw1
  subst hw1
  clear hW1
  clear EA
  have FN := fun (W : World) => func_nil (.pointer (some ⟨sb, 0, none⟩)) W
  gi_wp2_with fail
  clear FN
  obtain ⟨AS, hAS⟩ : ∃ AS : Nat → (Nat × Tok) → Act → World → Prop, AS = fun z x a' W => ∃ b, a' = Act.mk #[Value.string s, undef, Value.slice none 0 0, Value.pointer (some ⟨N, 0, none⟩), Value.func (Fn.func 25) #[] #[Value.pointer (some ⟨sb, 0, none⟩)], Value.pointer (some ⟨b, 0, none⟩), Value.string s, Value.func (Fn.func 25) #[] #[Value.pointer (some ⟨sb, 0, none⟩)], Value.func (Fn.func 25) #[] #[Value.pointer (some ⟨sb, 0, none⟩)], Value.bool false, Value.func (Fn.func 25) #[] #[Value.pointer (some ⟨sb, 0, none⟩)],
    .agg #[.int .i64 (x.2.kind : Int), .int .i64 (x.1 : Int), .string (s.extract x.1 (x.1 + x.2.len)), .int .i64 (x.2.n : Int)], undef, undef, undef, undef, undef] [] ∧ z ≤ b ∧ Blk W b 30 ∧ W.rangeAt b 0 (tokC s x) := ⟨_, rfl⟩
  have s1 := Lib.hid (show sb + 1 = w1.heap.size from by have := HI.out.2.2.1; have := HI.out.2.2.2; have := HSB.out; omega)
  have sN := Lib.hid (show sb = N + 1 from by have := HI.out.2.2.1; have := HSB.out; have := HB.out; omega)
  refine range_s (n := n) (e := 30) (by omega) (gf := 25) (lb := #[.pointer (some ⟨sb, 0, none⟩)]) rfl (enters_of Tryd.func25 (by kernel_rfl) rfl) (GV.out (n - 1) (by omega)) (Below.refl _ _) (Turn.refl _ _) (fun _ => rfl) (fun h k => h.trans k) (fun W l o o' h1 h2 h3 => putObj_turn W l o' ⟨by have := s1.out; omega, by have := s1.out; have := HI.out.2.1; have := sN.out; have := HB.out; omega⟩) grown_turn AS ?has (EcJ w s) ?hI ?hIT ⟨_, by have := HI.out.1; rw [← s1.out, sN.out, HB.out]; exact this, by have := s1.out; have := sN.out; have := HB.out; simp only; omega⟩ (fun _ _ => False) ?hIx ?assign ?body ?done ?stop
  case has =>
    rw [hAS]
    rintro z x a' W l' o o' ⟨b, rfl, hz, hb, hr⟩ h1 h2
    have hne : b ≠ l' := fun e => by
      subst e
      obtain ⟨cs, hb⟩ := hb
      rw [h1] at hb
      cases hb
      cases h2
    have T := putObj_turn (S := fun k => k = l') W l' o' rfl
    exact ⟨b, rfl, hz, hb.turn T hne, range_turn hr T hne⟩
  case hI =>
    rintro ⟨pre, m⟩ A B row ⟨v, h, h6⟩ hg hr
    exact ⟨v, h.own' hg (fun r e => ⟨by have := (hr r e).1; have := s1.out; have := sN.out; have := HB.out; omega, (hr r e).2⟩), h6⟩
  case hIT =>
    rintro pre m _ A B row ⟨v, h, h6⟩ hg hr
    simp only at h6
    exact ⟨v, h.bears hg (by omega) (fun r e => (hr r e).1), h6⟩
  case hIx => rintro pre A B row h hg hr; exact h
  case assign =>
    intro lo x W K' hK
    have hK := Lib.hid hK
    unfold tokV tokL
    gi_wp2
    refine hK.out _ _ (World.grownBy_alloc W _ none) ?_
    rw [hAS]
    exact ⟨W.heap.size, rfl, Nat.le_refl _, Blk.newA rfl, range_new W (tokC s x) 30⟩
  case body =>
    rw [hAS]
    rintro lo pre x m z a' W ⟨v, h, h6⟩ hm2 hmz hzW ⟨b, rfl, hz, hb, hr⟩ hx
    simp only at h h6
    obtain ⟨a, cap, rfl, -⟩ := own_slice h.own
    have y0 : W.cell? ⟨b, 0, none⟩ = some (.int .i64 (x.2.kind : Int)) := hr 0 _ rfl
    have y1 : W.cell? ⟨b, 1, none⟩ = some (.int .i64 (x.1 : Int)) := hr 1 _ rfl
    have y2 : W.cell? ⟨b, 2, none⟩ = some (.string (s.extract x.1 (x.1 + x.2.len))) := hr 2 _ rfl
    have y3 : W.cell? ⟨b, 3, none⟩ = some (.int .i64 (x.2.n : Int)) := hr 3 _ rfl
    have hNN := HB.out
    have hlen : pre.length ≤ 1000000 := by
      obtain ⟨r, hr⟩ := hx
      have h1 := congrArg List.length hr
      rw [List.length_append] at h1
      have := HS.out
      have := HS2.out
      omega
    obtain ⟨a', c', W2, hrun, T2, hL⟩ := h.push h6 (by omega) x hlen
    have w6 : ∀ k, (Value.slice a pre.length cap).ownBlock = some k → N + 2 ≤ k ∧ k < m := fun k hk => ⟨by rw [hNN]; exact (own_blk h.own hk).2, h.low k hk⟩
    have nn : ¬ (Value.slice a pre.length cap).ownBlock = some N := fun e => by have := w6 N e; omega
    have c3 : W.cell? ⟨N, 0, none⟩ = some (.slice a pre.length cap) := by rw [hNN]; exact h.l.2
    have c3' := T2.cell nn c3
    have f3' : ∀ i, W2.frozen? ⟨N, i, none⟩ = false := by
      have := (h.l.1.turn T2 (by rw [← hNN]; exact nn)).fz
      rw [← hNN] at this
      exact this
    rw [← hNN] at hL
    have TF : Turn (fun k => (Value.slice a pre.length cap).ownBlock = some k ∨ k = N) W (W2.setCell ⟨N, 0, none⟩ (.slice a' (pre.length + 1) c')) :=
      (T2.more (fun _ _ q => .inl q)).trans ((Turn.put _ N 0 _).more (fun _ _ q => .inr q))
    have HK := Lib.hid (keepsFrom_of TF (fun k q => by
      rcases q with q | rfl
      · exact ⟨_, (own_blk h.own q).1⟩
      · exact ⟨_, by rw [hNN]; exact h.l.1⟩) (w1.heap.size))
    have HK2 := Lib.hid (keepsHi_of (m := m) TF (fun k q => by
      rcases q with q | rfl
      · exact (w6 k q).2
      · omega))
    have HP := Lib.hid (show KpS sb W _ from TF.more (fun k _ q => by
      have := sN.out
      have := HI.out.2.1
      rcases q with q | rfl
      · have := (w6 k q).1; constructor <;> omega
      · constructor <;> omega))
    have FIN := Lib.hid (And.intro hL (show w.heap.size + 2 ≤ W2.heap.size from Nat.le_trans h6 (Nat.le_trans (Nat.le_trans hmz hzW) T2.size)))
    have RUN := Lib.hid hrun
    clear h h6 hm2 hmz hzW hz hb hx hr hrun T2 hL w6 nn TF hNN hlen
    gi_wp2_with (gi_at_builtin; refine ri_append_run (by rfl) _ _ _ (by rfl) (by rfl) (by rfl) RUN.out ?_)
    refine ⟨HK.out, HP.out, HK2.out, .slice a' (pre.length + 1) c', ?_, ?_⟩
    · have := FIN.out.1
      simpa [World.setCell] using this
    · have := FIN.out.2
      simpa [World.setCell] using this
  case done =>
    rintro D m W hD ⟨v, h, h6⟩ hK
    simp only at h h6
    obtain ⟨a, cap, rfl, -⟩ := own_slice h.own
    have c3 : W.cell? ⟨N, 0, none⟩ = some (.slice a (toksB s.data.toList).length cap) := by rw [HB.out]; exact h.l.2
    have ow := own_weak (own_turn h.own (putObj_turn (S := fun k => k = D) W D (.deferred none) rfl) (fun k hk q => not_deferred hK (own_blk h.own hk).1 q)) (show w.heap.size ≤ w.heap.size + 2 by omega)
    have R3 := Lib.hid (And.intro h.tn (And.intro hK (And.intro (show w.heap.size ≤ D by have := s1.out; have := sN.out; have := HB.out; omega) ow)))
    clear h h6 hK ow hD
    gi_wp2_with fail
    refine ⟨by simp, .inl ⟨_, _, rfl, run_takeDeferred R3.out.2.1, _, res_tmp1 rfl rfl, ?_⟩⟩
    exact ⟨R3.out.1.comp (putObj_turn (S := fun k => k = D) _ D _ rfl) (fun i hi e => by have := R3.out.2.2.1; omega), _, rfl, R3.out.2.2.2⟩
  case stop => rintro D pre r W hD hpr h hK; exact h.elim
theorem col_is (w : World) (s : ByteArray) (hs : s.size ≤ 1000000) (hE : ErrAt w) : Calls Tryd.prog 11 #[.string s] w (ColPost w s) := callsIn_wide.1 (col_in 6 (Nat.le_refl _) w s hs hE)
end Go.Proofs.YtjahjdmabconeaaDoor
