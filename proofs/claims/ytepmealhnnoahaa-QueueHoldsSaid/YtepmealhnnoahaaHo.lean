/-
  What came, less what was let go, is what is held: the walk.
-/
import Derived.Test.YtepmealhnnoahaaUd
import Derived.Test.YtepmealhnnoahaaSf
import Derived.Deep.DeepCutAuto
import Derived.Deep.CutBlock
namespace Go.Proofs.Ytepmealhnnoahaa
set_option linter.unusedSimpArgs false
open Go.ChangeShapes Go.WideShapes Go.ChangeAt Go.RowKit
set_option linter.unusedVariables false
theorem refSum_h (H : List Ht) : (hrefs H).length = refSum H := by
  induction H with
  | nil => rfl
  | cons x H ih => rw [hrefs_cons, List.length_append, ih]; simp [refSum]
theorem frefs_le {l : List Fnd} (h : ∀ f ∈ l, f.refs.length ≤ 2) : (frefs l).length ≤ 2 * l.length := by
  induction l with
  | nil => simp [frefs]
  | cons f l ih =>
    have h1 := h f (by simp)
    have h2 := ih (fun y hy => h y (by simp [hy]))
    simp only [frefs, List.length_append, List.length_cons] at h2 ⊢
    omega
theorem came_len {a : ActV} {st : Int} {Os : List OutV} (h : OutsOf a st Os) (k s g : Int) : (cameR k s g Os).length ≤ 40 := by
  have h1 := refSum_le (H := mergedH Os) (fun x hx => by
    obtain ⟨_, _, j, e⟩ := h.mem2 x hx
    rw [e]
    exact (fndC_refs st j).2.1)
  have h2 := h.merged.1
  have h3 := hrefs_perm (f := fun _ => 1) (merged_perm Os)
  rw [wtR_one, wtR_one] at h3
  have h4 := refSum_h (mergedH Os)
  unfold cameR
  rw [List.length_append]
  have : (if k = 1 then [(s, g)] else [] : List (Int × Int)).length ≤ 1 := by split <;> simp
  omega
theorem outs_nil {a : ActV} {st : Int} {Os : List OutV} (h : OutsOf a st Os) (hk : (cmdOf a st).k ≠ 1) : Os = [] := by
  rcases h with ⟨_, e⟩ | ⟨h6, _⟩
  · exact e
  · refine absurd ?_ hk
    unfold cmdOf
    rw [if_neg (by omega), if_neg (by omega), if_neg (by omega), if_neg (by omega), if_neg (by omega)]
theorem heldW_le {y : Int} {S : DS} (h : InvS (ouOf y) S) : heldW (fun _ => 1) S ≤ 41 * 20000 := sumN_le 41 (fun k _ => by
  unfold cellW
  rw [wtR_one]
  cases e : S (k : Int) with
  | none => simp [frefs]
  | some p =>
    obtain ⟨l, lo⟩ := p
    obtain ⟨h1, h2⟩ := h _ _ _ e
    have := frefs_le (fun f hf => (h2 f hf).1)
    have := ouOf_le y
    simp only [Option.getD_some]
    omega)
theorem InvS.two {y : Int} {S : DS} (h : InvS (ouOf y) S) : ∀ i l lo, S i = some (l, lo) → l.length ≤ 10000 ∧ (frefs l).length ≤ 20000 := fun i l lo e => by
  obtain ⟨h1, h2⟩ := h i l lo e
  have := frefs_le (fun f hf => (h2 f hf).1)
  have := ouOf_le y
  omega
theorem wrap_is {k : Nat} (h : k < 1000000) : wrap64 ((k : Int) + 1) = (k : Int) + 1 := by unfold wrap64; omega
theorem wrap_sub {a b : Nat} (ha : a ≤ 5000) (hb : b ≤ 5000) : wrap64 ((a : Int) - (b : Int)) = (a : Int) - (b : Int) := by unfold wrap64; omega
def GnRel (G : List (Int × Int)) (w0 : World) (gh : Nat) (v17 : Value) (wr : World) : Prop :=
  ∃ j : Nat, v17 = .int .i64 (j : Int) ∧ j ≤ G.length ∧ gh = G.length - j ∧ Turn (fun _ => False) w0 wr
theorem natcast_lt {i n : Nat} (h : i < n) : (i : Int) < (n : Int) := Int.ofNat_lt.2 h
/-- How what came and what was let go lie while a round goes on. -/
structure KS (w : World) (x y : Int) (d base i mb m : Nat) (S : DS) (P N : Nat → Prop) (R G g : List (Int × Int)) (vr vg gv : Value) (xb : Nat) (ck cs cg : Int) (v : Value) (Os : List OutV) (w5 : World) : Prop where
  desk : DAt w5 d mb base (quOf x) (ouOf y) (i * 30) m S P
  own : ∀ k, P k → w.heap.size ≤ k
  inv : InvS (ouOf y) S
  dom : DomS S
  mq : (m : Int) ≤ quOf x
  refs : w5.ownsRow w.heap.size 38 2 vr R.length (rcells R)
  gone : w5.ownsRow w.heap.size 38 2 vg G.length (rcells G)
  let_ : w5.ownsRow w.heap.size 38 2 gv g.length (rcells g)
  ra : ∀ k, vr.ownBlock = some k → ¬ P k
  ga : ∀ k, vg.ownBlock = some k → ¬ P k
  ap : ∀ k, vr.ownBlock = some k → vg.ownBlock ≠ some k
  al : ∀ k, vr.ownBlock = some k → gv.ownBlock ≠ some k
  rN : ∀ k, vr.ownBlock = some k → N k
  outs : OutsAt w5 N v Os
  hits : HitsAt w5 N Os
  cmd : w5.rangeAt xb 0 (cmdL ck 0 0 cs cg) ∨ True
  kind : w5.cell? ⟨xb, 0, none⟩ = some (.int .i64 ck)
  cs9 : w5.cell? ⟨xb, 9, none⟩ = some (.int .i64 cs)
  cg10 : w5.cell? ⟨xb, 10, none⟩ = some (.int .i64 cg)
  bx : Blk w5 xb 43
  hs : w.heap.size ≤ w5.heap.size
  lr : R.length ≤ 5000
  lk : (cameR ck cs cg Os).length ≤ 40
  lg : G.length ≤ 5000
  lgg : g.length ≤ 10000
  sum : ∀ f, wtR f (R ++ cameR ck cs cg Os) = wtR f (G ++ g) + heldW f S
  len : (R ++ cameR ck cs cg Os).length ≤ i * 50
  turn : Turn (fun _ => False) w w5
section
variable {w : World} {x y : Int} {d base i mb m : Nat} {S : DS} {P N : Nat → Prop} {R G g : List (Int × Int)} {vr vg gv : Value} {xb : Nat} {ck cs cg : Int} {v : Value} {Os : List OutV} {w5 wr : World}
theorem KS.out (h : KS w x y d base i mb m S P N R G g vr vg gv xb ck cs cg v Os w5) (T : Turn (fun q => vr.ownBlock = some q) w5 wr) : OutsAt wr N v Os ∧ HitsAt wr N Os := by
  have b38 : ∀ q, vr.ownBlock = some q → Blk w5 q 38 := fun q hq => by
    rcases h.refs.2 with ⟨e, _⟩ | ⟨g', cap, cur, e, _, hgg, _⟩
    · rw [e] at hq; simp [Value.ownBlock] at hq
    · rw [e] at hq
      have : g' = q := by simpa [Value.ownBlock] using hq
      subst this
      exact ⟨_, hgg⟩
  exact ⟨h.outs.next T (fun k hk q => hk.ne (b38 k q) (by decide) rfl) (fun k hk q => hk.ne (b38 k q) (by decide) rfl) (fun k hk _ q => hk.ne (b38 k q) (by decide) rfl) (fun k n => .inl n), h.hits.next T (fun k _ q => h.rN k q) (fun k n => .inl n)⟩
end
theorem pre_le {Os : List OutV} {k : Nat} {o : OutV} (h : Os[k]? = some o) (j : Nat) : (hrefs (hitsL (Os.take k)).flatten ++ hrefs (o.hits.take j)).length ≤ (hrefs (hitsL Os).flatten).length := by
  have h1 := outs_step h
  have e : hrefs (hitsL Os).flatten = hrefs (hitsL (Os.take (k + 1))).flatten ++ hrefs (hitsL (Os.drop (k + 1))).flatten := by
    rw [← hrefs_app, ← List.flatten_append]
    unfold hitsL
    rw [← List.map_append, List.take_append_drop]
  have e2 : hrefs o.hits = hrefs (o.hits.take j) ++ hrefs (o.hits.drop j) := by rw [← hrefs_app, List.take_append_drop]
  rw [e, h1, e2]
  simp only [List.length_append]
  omega
section
variable {w : World} {x y : Int} {d base i mb m : Nat} {S : DS} {P N : Nat → Prop} {R G g : List (Int × Int)} {vr vg gv : Value} {xb : Nat} {ck cs cg : Int} {v : Value} {Os : List OutV} {w5 wr : World}
theorem KS.b38 (h : KS w x y d base i mb m S P N R G g vr vg gv xb ck cs cg v Os w5) : ∀ q, vr.ownBlock = some q → Blk w5 q 38 := fun q hq => by
  rcases h.refs.2 with ⟨e, _⟩ | ⟨g', cap, cur, e, _, hgg, _⟩
  · rw [e] at hq; simp [Value.ownBlock] at hq
  · rw [e] at hq
    have : g' = q := by simpa [Value.ownBlock] using hq
    subst this
    exact ⟨_, hgg⟩
theorem KS.cl (h : KS w x y d base i mb m S P N R G g vr vg gv xb ck cs cg v Os w5) : (hrefs (hitsL Os).flatten).length ≤ 40 := by
  have := h.lk
  unfold cameR at this
  rw [List.length_append] at this
  omega
theorem KS.xne (h : KS w x y d base i mb m S P N R G g vr vg gv xb ck cs cg v Os w5) : ¬ vr.ownBlock = some xb := fun e => (h.b38 xb e).ne h.bx (by decide) rfl
theorem KS.next (h : KS w x y d base i mb m S P N R G g vr vg gv xb ck cs cg v Os w5) {v8 v9 : Value} {W8 W9 W10 : World} (T8 : Turn (fun q => vr.ownBlock = some q) w5 W8)
    (row8 : W8.ownsRow w.heap.size 38 2 v8 (R ++ cameR ck cs cg Os).length (rcells (R ++ cameR ck cs cg Os))) (ob8 : ∀ q, v8.ownBlock = some q → vr.ownBlock = some q ∨ w5.heap.size ≤ q)
    (row9 : W9.ownsRow w.heap.size 38 2 v9 (G ++ g).length (rcells (G ++ g))) (T9 : Turn (fun q => vg.ownBlock = some q) W8 W9) (ob9 : ∀ q, v9.ownBlock = some q → vg.ownBlock = some q ∨ W8.heap.size ≤ q) (T10 : Turn (fun _ => False) W9 W10) :
    HS w x y d base i mb m S P (R ++ cameR ck cs cg Os) (G ++ g) v8 v9 W10 := by
  have s8 := T8.size
  have s9 := T9.size
  have glt : ∀ k, vg.ownBlock = some k → k < w5.heap.size := fun k hk => (h.gone.lt k hk).2
  have rlt : ∀ k, vr.ownBlock = some k → k < w5.heap.size := fun k hk => (h.refs.lt k hk).2
  have n89 : ∀ k, v8.ownBlock = some k → ¬ vg.ownBlock = some k := fun k hk e => (ob8 k hk).elim (fun q => h.ap k q e) (fun q => by have := glt k e; omega)
  refine ⟨((h.desk.turn T8 (fun k p e => h.ra k e p)).turn T9 (fun k p e => h.ga k e p)).turn T10 (fun _ _ f => f), h.own, h.inv, h.dom, h.mq, own_turn (own_turn row8 T9 n89) T10 (fun _ _ f => f), own_turn row9 T10 (fun _ _ f => f),
    fun k hk p => (ob8 k hk).elim (fun q => h.ra k q p) (fun q => by have := h.desk.lt p; omega), fun k hk p => (ob9 k hk).elim (fun q => h.ga k q p) (fun q => by have := h.desk.lt p; omega), fun k hk e => ?_, h.sum, h.len, ?_⟩
  · have l8 := (row8.lt k hk).2
    rcases ob9 k e with q | q
    · exact n89 k hk q
    · omega
  · refine ((h.turn.comp T8 (fun k hk e => by have := (h.refs.lt k e).1; omega)).comp T9 (fun k hk e => by have := (h.gone.lt k e).1; omega)).trans T10
end
set_option maxRecDepth 100000 in
set_option maxHeartbeats 8000000 in
theorem holds_walk (x y : Int) (sa : Option Addr) (cap : Nat) (L : List ActV) (w : World) (hA : ActsAt w sa L) : Calls Try.prog 4 #[.agg #[.int .i64 x, .int .i64 y], .slice sa L.length cap] w fun e w' => e = .returned (.bool true) ∧ Below w.heap.size w w' := by
  have q1 := quOf_le x
  have q2 := ouOf_le y
  have HA := Lib.hid hA
  clear hA
  go_enter Try.func4, Try.ntmps4
  go_wp2_with fail
  with_reducible refine (queue_awake _).mono ?_
  rintro en w1 ⟨rfl, T1⟩
  have r0 : w1.rangeAt w.heap.size 0 [.int .i64 x, .int .i64 y] := range_turn (range_new w [.int .i64 x, .int .i64 y] 22) T1 id
  have y0 : w1.cell? ⟨w.heap.size, 0, none⟩ = some (.int .i64 x) := r0 0 _ rfl
  have y1 : w1.cell? ⟨w.heap.size, 1, none⟩ = some (.int .i64 y) := r0 1 _ rfl
  have T01 : Turn (fun _ => False) w w1 := ((Turn.refl _ w).alloc _).trans T1
  clear T1 r0
  go_wp2_with fail
  with_reducible refine (config_of w1 x y).mono ?_
  rintro en w2 ⟨rfl, T2⟩
  clear y0 y1
  go_wp2_with fail
  with_reducible refine (new_d w2 0 0 0 0 0 (qu := quOf x) (ou := ouOf y) q1.1 (by omega) q2.1 (by omega)).mono ?_
  rintro en w4 ⟨d, mb, P, rfl, hd, hPw, T4⟩
  have T24 := (T01.trans T2).trans T4
  have R0 : HoRel w x y d w2.heap.size L (min L.length 40) (.int .i64 0) (.slice none 0 0) (.slice none 0 0) (.int .i64 0) w4 := ⟨0, mb, 0, noneS, P, [], [], rfl, Nat.zero_le _, rfl, rfl, ⟨hd, fun k p => Nat.le_trans (T01.trans T2).size (hPw k p), (fun i l lo h => by cases h), DomS.none, by omega, ⟨rfl, .inl ⟨rfl, rfl⟩⟩, ⟨rfl, .inl ⟨rfl, rfl⟩⟩, fun k h => by simp [Value.ownBlock] at h, fun k h => by simp [Value.ownBlock] at h, fun k h => by simp [Value.ownBlock] at h, fun f => rfl, Nat.zero_le _, T24⟩⟩
  clear hd hPw T4 T2 T01 T24 q1 q2
  generalize w2.heap.size = base at *
  go_wp2_with fail
  go_loopg [7, 8, 9, 10] (min L.length 40) (fun gh v7 v8 v9 v10 wr => HoRel w x y d base L gh v7 v8 v9 v10 wr)
  case atStart => exact R0
  case round =>
    clear R0
    obtain ⟨i, mb, m, S, P, R, G, rfl, hi, hg, rfl, B⟩ := hrel
    obtain ⟨ra, rc, rfl, -⟩ := own_slice B.refs
    obtain ⟨ga, gc, rfl, -⟩ := own_slice B.gone
    by_cases hlt : i < min L.length 40
    · have q1 := quOf_le x
      have q2 := ouOf_le y
      have u1 : decide ((i : Int) < (L.length : Int)) = true := decide_eq_true (by omega)
      have u2 : decide (i < L.length) = true := decide_eq_true (by omega)
      have u3 : decide ((i : Int) < 40) = true := decide_eq_true (by omega)
      have j0 : (0 : Int) ≤ (i : Int) := by omega
      have j1 : (i : Int) < (L.length : Int) := by omega
      obtain ⟨a, hai⟩ : ∃ a, L[i]? = some a := ⟨_, List.getElem?_eq_getElem (by omega)⟩
      obtain ⟨ab, ao, e1, e2⟩ := HA.out
      have ea := e1.resolve_left (fun e => by rw [e] at hai; simp at hai)
      subst ea
      obtain ⟨ha, hc, la, lc, hr, nh, nl⟩ := e2 i a hai
      have hr1 := range_turn hr B.turn id
      have z0 : wr.cell? ⟨ab, ao + i * 6, none⟩ = some (.int .i64 a.kind) := hr1 0 _ rfl
      have z1 : wr.cell? ⟨ab, ao + i * 6 + 1, none⟩ = some (.int .i64 a.id) := hr1 1 _ rfl
      have z2 : wr.cell? ⟨ab, ao + i * 6 + 2, none⟩ = some (.int .i64 a.num) := hr1 2 _ rfl
      have z3 : wr.cell? ⟨ab, ao + i * 6 + 3, none⟩ = some (.slice ha a.hits.length hc) := hr1 3 _ rfl
      have z4 : wr.cell? ⟨ab, ao + i * 6 + 4, none⟩ = some (.slice la a.lost.length lc) := hr1 4 _ rfl
      have z5 : wr.cell? ⟨ab, ao + i * 6 + 5, none⟩ = some (.int .i64 a.shard) := hr1 5 _ rfl
      have es : wrap64 ((i : Int) + 1) = (i : Int) + 1 := by unfold wrap64; omega
      have C := cmd_is wr a (hc := hc) (lc := lc) (nh.turn B.turn) (nl.turn B.turn) ((i : Int) + 1) (by omega)
      unfold CmdPost at C
      have cwf := cmd_wf a ((i : Int) + 1)
      have onil : ∀ Os, OutsOf a ((i : Int) + 1) Os → (cmdOf a ((i : Int) + 1)).k ≠ 1 → Os = [] := fun Os h => outs_nil h
      obtain ⟨⟨ck, ci, cn, cs, cg⟩, hcm⟩ : ∃ c, cmdOf a ((i : Int) + 1) = c := ⟨_, rfl⟩
      rw [hcm] at C cwf onil
      dsimp only [CmdV.cells, cmdL] at C cwf onil
      have C := Lib.hid C
      have G0 := Lib.hid (And.intro hi (And.intro hg (And.intro B (And.intro hlt (And.intro cwf onil)))))
      have HS0 := Lib.hid (show (Lit.int .i64 ((i : Int) + 1)).wf = true from wf_of (by omega) (by omega))
      clear hi hg B hlt e1 e2 hai hr hr1 nh nl hcm cwf onil q1 q2
      go_wp2_with fail
      with_reducible refine C.out.mono ?_
      clear C z0 z1 z2 z3 z4 z5
      rintro en w2 ⟨va, vc, Os, rfl, hO, hF, hOf, T2⟩
      obtain ⟨X, hX⟩ : ∃ X, X = w2.alloc (.cells #[.int .i64 ck, .int .i64 ci, .int .i64 cn, .int .i64 0, .int .i64 0, .int .i64 0, .int .i64 0, .int .i64 0, .int .i64 0, .int .i64 cs, .int .i64 cg, .slice none 0 0, .int .i64 0, .bool false] 43) := ⟨_, rfl⟩
      have TX : Turn (fun _ => False) w2 X := by rw [hX]; exact (Turn.refl _ w2).alloc _
      have bX : Blk X w2.heap.size 43 := by rw [hX]; exact Blk.new w2 (cmdL ck ci cn cs cg) 43
      have rX : X.rangeAt w2.heap.size 0 (cmdL ck ci cn cs cg) := by rw [hX]; exact range_new w2 (cmdL ck ci cn cs cg) 43
      have T2X := T2.trans TX
      obtain ⟨hi, hg, B, hlt, cwf, onil⟩ := G0.out
      have hdX := B.desk.turn T2X (fun _ _ f => f)
      have own0 : ∀ k, P k → k < wr.heap.size := fun k p => B.desk.lt p
      have hON : OutsAt X (fun k => k < wr.heap.size) (.slice va Os.length vc) Os := hO.next TX (fun _ _ f => f) (fun _ _ f => f) (fun _ _ _ f => f) (fun k p => .inl p)
      have hFN : HitsAt X (fun k => k < wr.heap.size) Os := hF.next TX (fun _ _ f => f.elim) (fun k p => .inl p)
      have hOX : OutsAt X P (.slice va Os.length vc) Os := hO.next TX (fun _ _ f => f) (fun _ _ f => f) (fun _ _ _ f => f) (fun k p => .inl (own0 k p))
      have hFX : HitsAt X P Os := hF.next TX (fun _ _ f => f.elim) (fun k p => .inl (own0 k p))
      have mg := hOf.merged
      have D := DAt.does (stamp := (i : Int) + 1) (k := ck) (i := ci) (n := cn) (s := cs) (g := cg) (v := .slice va Os.length vc) (Os := Os) hdX HS0.out (wf_of cwf.1 (by omega)) (fun l' lo e => by
        obtain ⟨h1, h2⟩ := B.inv.two ci l' lo e
        omega) (fun _ => ⟨hOX, hFX, hOf.ok⟩) (by unfold maxLen; omega)
      have q1 := quOf_le x
      have q2 := ouOf_le y
      have iv := B.inv.does (by omega) B.mq (stamp := (i : Int) + 1) (k := ck) (i := ci) (n := cn) (s := cs) (g := cg) hOf
      have hw := fun f => does_held (f := f) (qu := quOf x) (ou := ouOf y) B.dom (m := m) (stamp := (i : Int) + 1) (k := ck) (i := ci) (n := cn) (s := cs) (g := cg) (Os := Os) (by omega) (fun h => onil Os hOf h)
      have hcl := came_len hOf ck cs cg
      obtain ⟨Rs, hR⟩ : ∃ Rs, doR (quOf x) (ouOf y) S m ((i : Int) + 1) ck ci cn cs cg Os = Rs := ⟨_, rfl⟩
      rw [hR] at D iv hw
      unfold cmdL at D
      rw [hX] at D
      have D := Lib.hid D
      have HX := Lib.hid hX
      have H1 := Lib.hid (And.intro T2X (And.intro bX (And.intro rX (And.intro mg (And.intro iv (And.intro hw (And.intro hcl (And.intro hON (And.intro hFN (And.intro hOf.len (fun o ho => (hOf.mem o ho).1)))))))))))
      clear T2 TX bX rX T2X hi hg B hlt cwf hdX own0 hOX hFX mg hR iv hw hX hO hF hOf onil hcl hON hFN q1 q2
      go_wp2_with fail
      with_reducible refine D.out.mono ?_
      clear D
      rintro en w4 ⟨av, gv, rfl, P2, D⟩
      rw [← HX.out] at D
      generalize w2.heap.size = xb at *
      obtain ⟨aa, ac, rfl⟩ := D.ans.sl
      obtain ⟨la4, lc4, rfl, -⟩ := own_slice D.gone
      have hno : ∀ {b : Nat} {t : TypeId}, Blk X b t → (t ≠ 82 ∧ t ≠ 71 ∧ t ≠ 46 ∧ t ≠ 3 ∧ t ≠ 38) → ¬ P b := fun hb ht => (G0.out.2.2.1.desk.turn H1.out.1 (fun _ _ f => f)).no hb ht
      have K5 := Lib.hid (show KS w x y d base (i + 1) mb Rs.m Rs.S P2 (fun k => k < wr.heap.size) R G Rs.gone (.slice ra R.length rc) (.slice ga G.length gc) (.slice la4 Rs.gone.length lc4) xb ck cs cg (.slice va Os.length vc) Os (w4.alloc (.cells #[.int .i64 Rs.err, .int .i64 Rs.num, .slice aa Rs.ms.length ac] 53)) from by
        obtain ⟨T2X, bX, rX, mg, iv, hw, hcl, hON, hFN, -⟩ := H1.out
        obtain ⟨hi, hg, B, hlt, cwf, onil⟩ := G0.out
        have T5 : Turn (fun _ => False) w4 (w4.alloc (.cells #[.int .i64 Rs.err, .int .i64 Rs.num, .slice aa Rs.ms.length ac] 53)) := (Turn.refl _ w4).alloc _
        have own0 : ∀ k, P k → k < wr.heap.size := fun k p => B.desk.lt p
        have T4 : Turn (fun _ => False) w w4 := (B.turn.trans T2X).comp D.turn (fun k hk p => by have := B.own k p; omega)
        have szX := T2X.size
        have sz4 := D.turn.size
        have new4 : ∀ {k : Nat}, X.heap.size ≤ k → wr.heap.size ≤ k := fun h => Nat.le_trans szX h
        have rlt : ∀ k, (Value.slice ra R.length rc).ownBlock = some k → k < wr.heap.size := fun k hk => (B.refs.lt k hk).2
        have glt : ∀ k, (Value.slice ga G.length gc).ownBlock = some k → k < wr.heap.size := fun k hk => (B.gone.lt k hk).2
        have hgl := B.glen
        have hlen := B.len
        have hgone : Rs.gone.length ≤ 10000 := by
          have h1 := (hw (fun _ => 1)).2
          have h2 := heldW_le B.inv
          have h3 := B.glen
          rw [wtR_one, wtR_one] at h1
          omega
        exact ⟨(D.desk.more (by omega)).turn T5 (fun _ _ f => f), fun k p => (D.own k p).elim (B.own k) (fun q => Nat.le_trans (Nat.le_trans B.turn.size szX) q), iv.1, (hw (fun _ => 1)).1, iv.2,
          own_turn (own_turn (own_turn B.refs T2X (fun _ _ f => f)) D.turn (fun k hk p => B.ra k hk p)) T5 (fun _ _ f => f),
          own_turn (own_turn (own_turn B.gone T2X (fun _ _ f => f)) D.turn (fun k hk p => B.ga k hk p)) T5 (fun _ _ f => f),
          own_base (own_turn D.gone T5 (fun _ _ f => f)) (Nat.le_trans B.turn.size szX),
          fun k hk p => (D.own k p).elim (B.ra k hk) (fun q => by have := rlt k hk; omega),
          fun k hk p => (D.own k p).elim (B.ga k hk) (fun q => by have := glt k hk; omega),
          B.ap, fun k hk e => by have := rlt k hk; have := (D.gone.lt k e).1; omega, rlt,
          (hON.next D.turn (fun k hk => hno hk (by decide)) (fun k hk => hno hk (by decide)) (fun k _ n p => n (own0 k p)) (fun k n => .inl n)).next T5 (fun _ _ f => f) (fun _ _ f => f) (fun _ _ _ f => f) (fun k n => .inl n),
          (hFN.next D.turn (fun k _ p => own0 k p) (fun k n => .inl n)).next T5 (fun _ _ f => f.elim) (fun k n => .inl n), .inr trivial,
          T5.cell id (D.turn.cell (hno bX (by decide)) (rX 0 _ rfl)), T5.cell id (D.turn.cell (hno bX (by decide)) (rX 9 _ rfl)), T5.cell id (D.turn.cell (hno bX (by decide)) (rX 10 _ rfl)), (bX.turn D.turn (hno bX (by decide))).turn T5 id,
          (T4.trans T5).size, by omega, hcl, by omega, hgone, fun f => by
            have h1 := (hw f).2
            have h2 := B.sum f
            rw [wtR_app, wtR_app]
            omega, by rw [List.length_append]; omega, T4.trans T5⟩)
      have G1 := Lib.hid (And.intro G0.out.1 (And.intro G0.out.2.1 G0.out.2.2.2.1))
      have HOS := Lib.hid H1.out.2.2.2.2.2.2.2.2.2
      clear D H1 HX G0 hno HS0
      have hOl := Lib.hid (show Os.length ≤ 3 from HOS.out.1)
      have hOh := Lib.hid (show ∀ o ∈ Os, o.hits.length ≤ 6 from HOS.out.2)
      go_upto_region 11 with fail
      generalize (w4.alloc (.cells #[.int .i64 Rs.err, .int .i64 Rs.num, .slice aa Rs.ms.length ac] 53)) = w5 at *
      generalize w4.heap.size = b13 at *
      have R2 : OutRel w.heap.size R (.slice ra R.length rc) w5 Os Os.length (.slice ra R.length rc) (.int .i64 0) w5 := ⟨0, rfl, Nat.zero_le _, rfl, by simpa [hitsL, hrefs, frefs] using K5.out.refs, fun q h => .inl h, Turn.refl _ _⟩
      go_wp2_with fail
      go_loopg [8, 15, 16] Os.length (fun gh v8 v15 v16 wr => OutRel w.heap.size R (.slice ra R.length rc) w5 Os gh v8 v15 wr)
      case atStart => exact R2
      case round =>
        clear R2
        obtain ⟨k, rfl, hk, hgk, own8, ob8, T8⟩ := hrel
        obtain ⟨a8, c8, rfl, -⟩ := own_slice own8
        obtain ⟨n8, hn8⟩ : ∃ n, (R ++ hrefs (hitsL (Os.take k)).flatten).length = n := ⟨_, rfl⟩
        rw [hn8] at ob8 ⊢
        by_cases hkl : k < Os.length
        · obtain ⟨o, hok⟩ : ∃ o, Os[k]? = some o := ⟨_, List.getElem?_eq_getElem hkl⟩
          obtain ⟨K0, hK0⟩ : ∃ K, hrefs (hitsL (Os.take k)).flatten = K := ⟨_, rfl⟩
          rw [hK0] at own8 hn8
          have R3 : HitRel w.heap.size R (.slice ra R.length rc) w5 K0 o.hits o.hits.length (.slice a8 n8 c8) (.int .i64 0) wr := ⟨0, rfl, Nat.zero_le _, rfl, by rw [hn8] at own8; simpa [hrefs, frefs, hn8] using own8, ob8, T8⟩
          have v1 : decide ((k : Int) < (Os.length : Int)) = true := decide_eq_true (natcast_lt hkl)
          have v2 : decide (k < Os.length) = true := decide_eq_true hkl
          have v3 : (0 : Int) ≤ (k : Int) := Int.natCast_nonneg k
          have v4 : (k : Int) < (Os.length : Int) := natcast_lt hkl
          have ek : wrap64 ((k : Int) + 1) = (k : Int) + 1 := wrap_is (by have := hOl.out; omega)
          have G3 := Lib.hid (And.intro hgk (And.intro hkl (And.intro hok hK0)))
          clear own8 ob8 T8 hgk hok hK0 hn8 hk
          go_wp2_with fail
          go_loopg [8, 16] o.hits.length (fun gh v8 v16 wr => HitRel w.heap.size R (.slice ra R.length rc) w5 K0 o.hits gh v8 v16 wr)
          case atStart => exact R3
          case round =>
            clear R3
            obtain ⟨j, rfl, hj, hgj, own9, ob9, T9⟩ := hrel
            obtain ⟨a9, c9, rfl, -⟩ := own_slice own9
            obtain ⟨n9, hn9⟩ : ∃ n, (R ++ (K0 ++ hrefs (o.hits.take j))).length = n := ⟨_, rfl⟩
            rw [hn9]
            obtain ⟨hgk, hkl, hok, hK0⟩ := G3.out
            obtain ⟨hous, hfd⟩ := K5.out.out T9
            obtain ⟨a1, b1, of1, cp1, e1, h1, h2⟩ := hous
            obtain ⟨e2, e3⟩ : va = a1 ∧ vc = cp1 := by injection e1 with z1 z2 z3; exact ⟨z1, z3⟩
            obtain ⟨hva, _⟩ := h1.resolve_left (fun e => by rw [e] at hok; simp at hok)
            rw [hva] at e2
            clear e1 h1 hva
            subst e2
            obtain rfl : cp1 = vc := e3.symm
            obtain ⟨vh, vl, ua, un, uc, da, dn, dc, hr, hh, hl⟩ := h2 k o hok
            obtain ⟨h4, hb, ho1, hc1, rfl, hcap, hrow, hx⟩ := hh
            have x0 : wr.cell? ⟨b1, of1 + k * 4, none⟩ = some (.slice h4 o.hits.length hc1) := hr 0 _ rfl
            by_cases hjl : j < o.hits.length
            · obtain ⟨xq, hxq⟩ : ∃ x, o.hits[j]? = some x := ⟨_, List.getElem?_eq_getElem hjl⟩
              obtain ⟨rfl, -⟩ := hrow.resolve_left (fun e => by rw [e] at hjl; exact absurd hjl (Nat.not_lt_zero j))
              have x2 : wr.cell? ⟨hb, ho1 + j * 3 + 2, none⟩ = some (.slice xq.ra xq.rn xq.rc) := hx j xq hxq 2 _ rfl
              have fd := hfd o (List.mem_of_getElem? hok) xq (List.mem_of_getElem? hxq)
              have hpl := pre_le hok j
              rw [hK0] at hpl
              have hc40 := KS.cl K5.out
              have r5 := K5.out.lr
              obtain ⟨v', W', hrun, own', T', ob'⟩ := app_refsI own9 (refsin_row fd.refs) (by rw [List.length_append]; have := fd.r2; omega) (Nat.le_trans K5.out.hs T9.size) 54
              have el : R ++ (K0 ++ hrefs (o.hits.take j)) ++ xq.f.refs = R ++ (K0 ++ hrefs (o.hits.take (j + 1))) := by rw [hrefs_step hxq]; simp only [List.append_assoc]
              rw [el] at own'
              obtain ⟨a', c', rfl, -⟩ := own_slice own'
              obtain ⟨n', hn'⟩ : ∃ n, (R ++ (K0 ++ hrefs (o.hits.take (j + 1)))).length = n := ⟨_, rfl⟩
              rw [hn', hn9] at hrun
              have RUN := Lib.hid hrun
              have STEP := Lib.hid (show HitRel w.heap.size R (.slice ra R.length rc) w5 K0 o.hits (o.hits.length - (j + 1)) (.slice a' n' c') (.int .i64 ((j : Int) + 1)) W' from ⟨j + 1, congrArg (Value.int .i64) (Int.natCast_succ j).symm, hjl, rfl, by rw [hn'] at own' ⊢; exact own', fun q hq => (ob' q (by rw [hn']; exact hq)).elim (ob9 q) (fun h => .inr (Nat.le_trans T9.size h)), T9.comp T' (fun q hq e => (ob9 q e).resolve_right (Nat.not_le.2 hq))⟩)
              have t1 : decide ((j : Int) < (o.hits.length : Int)) = true := decide_eq_true (natcast_lt hjl)
              have t2 : decide (j < o.hits.length) = true := decide_eq_true hjl
              have t3 : (0 : Int) ≤ (j : Int) := Int.natCast_nonneg j
              have t4 : (j : Int) < (o.hits.length : Int) := natcast_lt hjl
              have ej : wrap64 ((j : Int) + 1) = (j : Int) + 1 := wrap_is (by have := hOh.out o (List.mem_of_getElem? hok); omega)
              have G4 := Lib.hid (And.intro hgj hjl)
              clear hr hl hx fd hpl hc40 r5 hrun own' T' ob' el hn' hn9 own9 ob9 T9 hgk hkl hok hK0 hfd h2 hgj hjl hj hxq
              generalize o.hits.length = nh at *
              go_wp2_with (refine rl_append_run (by rfl) _ _ _ (by rfl) (by rfl) (by rfl) RUN.out ?_)
              go_roundg (nh - (j + 1))
              case measure => have := G4.out.1; have := G4.out.2; omega
              case rel => first | exact STEP.out | (rw [ej]; exact STEP.out)
            · obtain rfl : j = o.hits.length := Nat.le_antisymm hj (Nat.not_lt.1 hjl)
              have STEP := Lib.hid (show OutRel w.heap.size R (.slice ra R.length rc) w5 Os (Os.length - (k + 1)) (.slice a9 n9 c9) (.int .i64 ((k : Int) + 1)) wr from ⟨k + 1, congrArg (Value.int .i64) (Int.natCast_succ k).symm, hkl, rfl, by
                have e : hrefs (hitsL (Os.take (k + 1))).flatten = K0 ++ hrefs (o.hits.take o.hits.length) := by rw [outs_step hok, hK0, List.take_length]
                rw [e, hn9]
                rw [hn9] at own9
                exact own9, fun q hq => ob9 q (by rw [hn9]; exact hq), T9⟩)
              have t1 : decide ((o.hits.length : Int) < (o.hits.length : Int)) = false := decide_eq_false (Int.lt_irrefl _)
              have t2 : decide (o.hits.length < o.hits.length) = false := decide_eq_false (Nat.lt_irrefl _)
              have G4 := Lib.hid (And.intro hgk hkl)
              clear hr hl hx own9 ob9 T9 hgk hok hK0 hfd h2 hgj hjl hj hn9 hkl
              generalize o.hits.length = nh at *
              go_wp2_with fail
              go_roundg (Os.length - (k + 1))
              case measure => have := G4.out.1; have := G4.out.2; omega
              case rel => first | exact STEP.out | (rw [ek]; exact STEP.out)
        · obtain rfl : k = Os.length := Nat.le_antisymm hk (Nat.not_lt.1 hkl)
          have v1 : decide ((Os.length : Int) < (Os.length : Int)) = false := decide_eq_false (Int.lt_irrefl _)
          have v2 : decide (Os.length < Os.length) = false := decide_eq_false (Nat.lt_irrefl _)
          rw [List.take_length] at own8 hn8
          have KX := K5.out
          have xk : wr.cell? ⟨xb, 0, none⟩ = some (.int .i64 ck) := T8.cell KX.xne KX.kind
          have x9 : wr.cell? ⟨xb, 9, none⟩ = some (.int .i64 cs) := T8.cell KX.xne KX.cs9
          have x10 : wr.cell? ⟨xb, 10, none⟩ = some (.int .i64 cg) := T8.cell KX.xne KX.cg10
          by_cases hck : ck = 1
          · have tc : (ck == 1) = true := beq_iff_eq.2 hck
            have TA : Turn (fun _ => False) wr (wr.alloc (.cells #[.int .i64 cs, .int .i64 cg] 38)) := (Turn.refl _ wr).alloc _
            have RA : (wr.alloc (.cells #[.int .i64 cs, .int .i64 cg] 38)).rangeAt wr.heap.size 0 [.int .i64 cs, .int .i64 cg] := range_new wr [.int .i64 cs, .int .i64 cg] 38
            have h40 := KX.cl
            have r5 := KX.lr
            have ecm : R ++ hrefs (hitsL Os).flatten ++ [(cs, cg)] = R ++ cameR ck cs cg Os := by unfold cameR; rw [if_pos hck, List.append_assoc]
            obtain ⟨v', W', hrun, own', T', ob'⟩ := app_refsI (m := [(cs, cg)]) (own_turn own8 TA (fun _ _ f => f)) (.inr ⟨wr.heap.size, 0, 1, rfl, RA⟩) (by simp only [List.length_append, List.length_cons, List.length_nil]; omega) (Nat.le_trans KX.hs (Nat.le_trans T8.size TA.size)) 54
            rw [ecm] at own'
            have ob8' : ∀ q, v'.ownBlock = some q → (Value.slice ra R.length rc).ownBlock = some q ∨ w5.heap.size ≤ q := fun q hq => (ob' q hq).elim (fun h => ob8 q (by rw [hn8] at h; exact h)) (fun h => .inr (Nat.le_trans T8.size (Nat.le_trans TA.size h)))
            have T8' : Turn (fun q => (Value.slice ra R.length rc).ownBlock = some q) w5 W' := (T8.trans (TA.more (fun _ _ f => f.elim))).comp T' (fun q hq e => (ob8 q (by rw [hn8] at e; exact e)).resolve_right (Nat.not_le.2 hq))
            obtain ⟨a8, c8, rfl, -⟩ := own_slice own'
            rw [hn8] at hrun
            obtain ⟨nR, hnR⟩ : ∃ n, (R ++ cameR ck cs cg Os).length = n := ⟨_, rfl⟩
            rw [hnR] at hrun ob8'
            have RUN := Lib.hid hrun
            have row8 := own'
            rw [hnR] at row8
            have H8 := Lib.hid (And.intro row8 (And.intro ob8' (And.intro T8' hnR)))
            clear hrun own' row8 ob8' T8' T8 ob8 own8 hn8 RA TA T' ob' ecm h40 r5 KX hk hgk hkl hck hnR
            go_upto_region 20 with (refine rl_append_run (by rfl) _ _ _ (by rfl) (by rfl) (by rfl) RUN.out ?_)
            clear RUN
            obtain ⟨row8, ob8, T8, hnR⟩ := H8.out
            clear H8 tc xk x9 x10 v1 v2
            obtain ⟨a8', c8', e8', -⟩ := own_slice row8
            have KK := K5.out
            have s8 := T8.size
            have rowg := own_turn KK.gone T8 (fun k hk e => KK.ap k e hk)
            have rowl := own_turn KK.let_ T8 (fun k hk e => KK.al k e hk)
            obtain ⟨v9, W9, hrun, row9, T9, ob9⟩ := app_refsI rowg (refsin_own rowl) (by have := KK.lg; have := KK.lgg; omega) (Nat.le_trans KK.hs s8) 54
            obtain ⟨a9', c9', rfl, -⟩ := own_slice row9
            have hh := (((KK.desk.turn T8 (fun k p e => KK.ra k e p)).turn T9 (fun k p e => KK.ga k e p))).held KK.dom KK.inv.two
            have NX := Lib.hid (fun (W10 : World) (T10 : Turn (fun _ => False) W9 W10) => KK.next T8 (by rw [hnR]; exact row8) ob8 row9 T9 ob9 T10)
            have hsum := KK.sum (fun _ => 1)
            rw [wtR_one, wtR_app, wtR_one, wtR_one] at hsum
            have hbR := KK.len
            have hRUN := Lib.hid hrun
            have hHLD := Lib.hid hh
            have hlim := G1.out.2.2
            obtain ⟨nG, hnG⟩ : ∃ n, (G ++ Rs.gone).length = n := ⟨_, rfl⟩
            obtain ⟨nH, hnH⟩ : ∃ n, heldW (fun _ => 1) Rs.S = n := ⟨_, rfl⟩
            have hGl : G.length + Rs.gone.length = nG := by rw [← hnG, List.length_append]
            have STEP := Lib.hid (show ∀ (W10 : World), Turn (fun _ => False) W9 W10 → HoRel w x y d base L (min L.length 40 - (i + 1)) (.int .i64 ((nR : Int) - (nG : Int))) (.slice a8 nR c8) (.slice a9' nG c9') (.int .i64 ((i : Int) + 1)) W10 from fun W10 T10 => by
              have nx := NX.out W10 T10
              rw [hnG] at nx
              exact ⟨i + 1, mb, Rs.m, Rs.S, P2, R ++ cameR ck cs cg Os, G ++ Rs.gone, congrArg (Value.int .i64) (Int.natCast_succ i).symm, hlim, rfl, by rw [hnR, hnG], nx⟩)
            rw [hnR, hGl] at hsum
            rw [hnR] at hbR
            rw [hnG] at hRUN
            rw [hnH] at hsum hHLD
            have tcm : (((nR : Int) - (nG : Int)) != (nH : Int)) = false := by
              rw [hsum]
              simp
              omega
            have hi40 : i + 1 ≤ 40 := by omega
            have bR : nR ≤ 5000 := by omega
            have bG : nG ≤ 5000 := by omega
            have eS : wrap64 ((nR : Int) - (nG : Int)) = (nR : Int) - (nG : Int) := wrap_sub bR bG
            have ei : wrap64 ((i : Int) + 1) = (i : Int) + 1 := wrap_is (by omega)
            have RUN := hRUN
            have HLD := hHLD
            have G2 := Lib.hid (And.intro hlim G1.out.2.1)
            clear hRUN hHLD NX hsum hbR hrun hh row8 row9 T8 T9 ob8 ob9 rowg rowl s8 KK hlim hnR hnG hnH hGl K5 G1 bR bG hi40 e8'
            go_wp2_with (refine rl_append_run (by rfl) _ _ _ (by rfl) (by rfl) (by rfl) RUN.out ?_)
            with_reducible refine HLD.out.mono ?_
            rintro en W10 ⟨rfl, T10⟩
            have STEP := Lib.hid (STEP.out W10 T10)
            clear T10 HLD RUN
            go_wp2_with fail
            go_roundg (min L.length 40 - (i + 1))
            case measure => have := G2.out.1; have := G2.out.2; omega
            case rel => first | exact STEP.out | (rw [ei]; exact STEP.out) | (rw [eS]; exact STEP.out) | (rw [eS, ei]; exact STEP.out)
          · have tc : (ck == 1) = false := beq_eq_false_iff_ne.2 hck
            have ecm : R ++ hrefs (hitsL Os).flatten = R ++ cameR ck cs cg Os := by unfold cameR; rw [if_neg hck, List.append_nil]
            rw [ecm] at own8 hn8
            rw [hn8] at own8
            have H8 := Lib.hid (And.intro own8 (And.intro ob8 (And.intro T8 hn8)))
            clear T8 ob8 own8 hn8 ecm KX hk hgk hkl hck
            go_upto_region 20 with fail
            obtain ⟨row8, ob8, T8, hnR⟩ := H8.out
            clear H8 tc xk x9 x10 v1 v2
            generalize n8 = nR at *
            obtain ⟨a8', c8', e8', -⟩ := own_slice row8
            have KK := K5.out
            have s8 := T8.size
            have rowg := own_turn KK.gone T8 (fun k hk e => KK.ap k e hk)
            have rowl := own_turn KK.let_ T8 (fun k hk e => KK.al k e hk)
            obtain ⟨v9, W9, hrun, row9, T9, ob9⟩ := app_refsI rowg (refsin_own rowl) (by have := KK.lg; have := KK.lgg; omega) (Nat.le_trans KK.hs s8) 54
            obtain ⟨a9', c9', rfl, -⟩ := own_slice row9
            have hh := (((KK.desk.turn T8 (fun k p e => KK.ra k e p)).turn T9 (fun k p e => KK.ga k e p))).held KK.dom KK.inv.two
            have NX := Lib.hid (fun (W10 : World) (T10 : Turn (fun _ => False) W9 W10) => KK.next T8 (by rw [hnR]; exact row8) ob8 row9 T9 ob9 T10)
            have hsum := KK.sum (fun _ => 1)
            rw [wtR_one, wtR_app, wtR_one, wtR_one] at hsum
            have hbR := KK.len
            have hRUN := Lib.hid hrun
            have hHLD := Lib.hid hh
            have hlim := G1.out.2.2
            obtain ⟨nG, hnG⟩ : ∃ n, (G ++ Rs.gone).length = n := ⟨_, rfl⟩
            obtain ⟨nH, hnH⟩ : ∃ n, heldW (fun _ => 1) Rs.S = n := ⟨_, rfl⟩
            have hGl : G.length + Rs.gone.length = nG := by rw [← hnG, List.length_append]
            have STEP := Lib.hid (show ∀ (W10 : World), Turn (fun _ => False) W9 W10 → HoRel w x y d base L (min L.length 40 - (i + 1)) (.int .i64 ((nR : Int) - (nG : Int))) (.slice a8 nR c8) (.slice a9' nG c9') (.int .i64 ((i : Int) + 1)) W10 from fun W10 T10 => by
              have nx := NX.out W10 T10
              rw [hnG] at nx
              exact ⟨i + 1, mb, Rs.m, Rs.S, P2, R ++ cameR ck cs cg Os, G ++ Rs.gone, congrArg (Value.int .i64) (Int.natCast_succ i).symm, hlim, rfl, by rw [hnR, hnG], nx⟩)
            rw [hnR, hGl] at hsum
            rw [hnR] at hbR
            rw [hnG] at hRUN
            rw [hnH] at hsum hHLD
            have tcm : (((nR : Int) - (nG : Int)) != (nH : Int)) = false := by
              rw [hsum]
              simp
              omega
            have hi40 : i + 1 ≤ 40 := by omega
            have bR : nR ≤ 5000 := by omega
            have bG : nG ≤ 5000 := by omega
            have eS : wrap64 ((nR : Int) - (nG : Int)) = (nR : Int) - (nG : Int) := wrap_sub bR bG
            have ei : wrap64 ((i : Int) + 1) = (i : Int) + 1 := wrap_is (by omega)
            have RUN := hRUN
            have HLD := hHLD
            have G2 := Lib.hid (And.intro hlim G1.out.2.1)
            clear hRUN hHLD NX hsum hbR hrun hh row8 row9 T8 T9 ob8 ob9 rowg rowl s8 KK hlim hnR hnG hnH hGl K5 G1 bR bG hi40 e8'
            go_wp2_with (refine rl_append_run (by rfl) _ _ _ (by rfl) (by rfl) (by rfl) RUN.out ?_)
            with_reducible refine HLD.out.mono ?_
            rintro en W10 ⟨rfl, T10⟩
            have STEP := Lib.hid (STEP.out W10 T10)
            clear T10 HLD RUN
            go_wp2_with fail
            go_roundg (min L.length 40 - (i + 1))
            case measure => have := G2.out.1; have := G2.out.2; omega
            case rel => first | exact STEP.out | (rw [ei]; exact STEP.out) | (rw [eS]; exact STEP.out) | (rw [eS, ei]; exact STEP.out)
    · have hgl := B.glen
      have hwl := heldW_le B.inv
      have hln := B.len
      have le5 : R.length ≤ 5000 := by omega
      have le5g : G.length ≤ 5000 := by omega
      have CLE : ∀ p, cntR p G ≤ cntR p R := fun p => by
        rw [cntR_wt, cntR_wt]
        have := B.sum (fun q => if q.1 == p.1 && q.2 == p.2 then 1 else 0)
        omega
      have CA : ∀ W, Turn (fun _ => False) wr W → ∀ p : Int × Int, Calls Try.prog 24 #[.slice ga G.length gc, .agg #[.int .i64 p.1, .int .i64 p.2]] W (fun e w' => e = .returned (.int .i64 (cntR p G : Int)) ∧ Turn (fun _ => False) W w') := fun W T p => count_is ((refs_own B.gone).turn T (fun _ _ q => q)) (by omega) p
      have CB : ∀ W, Turn (fun _ => False) wr W → ∀ p : Int × Int, Calls Try.prog 24 #[.slice ra R.length rc, .agg #[.int .i64 p.1, .int .i64 p.2]] W (fun e w' => e = .returned (.int .i64 (cntR p R : Int)) ∧ Turn (fun _ => False) W w') := fun W T p => count_is ((refs_own B.refs).turn T (fun _ _ q => q)) (by omega) p
      have hgr := refs_own B.gone
      have TB := B.turn
      have CG := Lib.hid (And.intro CLE (And.intro CA (And.intro CB (And.intro hgr TB))))
      have c0 : (0 : Int) ≤ (R.length : Int) - (G.length : Int) := by omega
      have LG := Lib.hid le5g
      have HC0 := Lib.hid c0
      generalize hcc : (R.length : Int) - (G.length : Int) = cc at *
      clear hgl hwl hln le5 le5g CLE CA CB hgr TB B hg hcc
      have R4 : GnRel G wr G.length (.int .i64 0) wr := ⟨0, rfl, Nat.zero_le _, rfl, Turn.refl _ _⟩
      clear c0
      by_cases h4 : i < L.length
      · have u1 : decide ((i : Int) < (L.length : Int)) = true := decide_eq_true (Int.ofNat_lt.2 h4)
        have u2 : decide (i < L.length) = true := decide_eq_true h4
        have u3 : decide ((i : Int) < 40) = false := decide_eq_false (by omega)
        clear hi hlt HA h4
        go_wp2_with fail
        go_loopg [17] G.length (fun gh v17 W => GnRel G wr gh v17 W)
        case atStart => exact R4
        case round =>
          clear R4
          obtain ⟨j, rfl, hj, hgj, T4⟩ := hrel
          rename World => WR
          by_cases hjl : j < G.length
          · obtain ⟨p, hp⟩ : ∃ p, G[j]? = some p := ⟨_, List.getElem?_eq_getElem hjl⟩
            obtain ⟨CLE, CA, CB, ⟨a1, b1, c1, e0, e1, hx⟩, TB⟩ := CG.out
            obtain ⟨rfl, rfl⟩ : ga = a1 ∧ gc = c1 := by injection e0 with z1 z2 z3; exact ⟨z1, z3⟩
            obtain rfl := e1.resolve_left (fun e => by rw [e] at hjl; simp at hjl)
            have hr := range_turn (hx j p hp) T4 id
            have t1 : decide ((j : Int) < (G.length : Int)) = true := decide_eq_true (natcast_lt hjl)
            have t2 : decide (j < G.length) = true := decide_eq_true hjl
            have hi1 : (j : Int) < (G.length : Int) := natcast_lt hjl
            have hi0 : (0 : Int) ≤ (j : Int) := Int.natCast_nonneg j
            have ej : wrap64 ((j : Int) + 1) = (j : Int) + 1 := wrap_is (by have := LG.out; omega)
            have C1 := Lib.hid (fun V (t : Turn (fun _ => False) WR V) => (CA V (T4.trans t) p))
            have C2 := Lib.hid (fun V (t : Turn (fun _ => False) WR V) => (CB V (T4.trans t) p))
            have KS := Lib.hid (show ∀ w1, Turn (fun _ => False) WR w1 → w1.rangeAt b1 (j * 2) [.int .i64 p.1, .int .i64 p.2] from fun w1 t => range_turn hr t id)
            have hcl : decide ((cntR p R : Int) < (cntR p G : Int)) = false := decide_eq_false (by have := CLE p; omega)
            have hcl2 : decide (cntR p R < cntR p G) = false := decide_eq_false (by have := CLE p; omega)
            have STEP := Lib.hid (show ∀ V, Turn (fun _ => False) WR V → GnRel G wr (G.length - (j + 1)) (.int .i64 ((j : Int) + 1)) V from fun V t => ⟨j + 1, congrArg (Value.int .i64) (Int.natCast_succ j).symm, hjl, rfl, T4.trans t⟩)
            have G5 := Lib.hid (And.intro hgj hjl)
            have T1 : Turn (fun _ => False) WR WR.drew := (Turn.refl _ WR).drewN 1
            clear hr hgj T4 hjl hp hj CLE CA CB hx TB e0 e1
            generalize cntR p R = cr at *
            generalize cntR p G = cg at *
            go_upto_region 27 with fail
            refine wp_region_held_drew (S := (fun w' => w'.rangeAt b1 (j * 2) [.int .i64 p.1, .int .i64 p.2])) (by kernel_rfl) ?hs0 (fun hS0 => ?_)
            case hs0 => ((try dsimp only); first | exact KS.out _ T1 | exact KS.out _ T2 | exact KS.out _ T3)
            refine wpAnyH_take (i := 0) (oi := { dst := some 105, op := Op.move (Operand.tmp 9), type := 54, pos := "law.go:128", after := #[], guard := none }) (v := ?_) rfl (by kernel_rfl) (by kernel_rfl) (by kernel_rfl) (fun _ _ _ h => h) (Or.inl ⟨by rfl, ?hy1⟩) hS0 ?_
            case hy1 => (intro w hSw; (try dsimp only at hSw); go_simp; try with_reducible rfl)
            try simp only [Act.put, List.setIfInBounds_toArray, List.set_cons_zero, List.set_cons_succ]
            refine wpAnyH_take (i := 1) (oi := { dst := some 106, op := Op.move (Operand.tmp 9), type := 54, pos := "law.go:128", after := #[], guard := none }) (v := ?_) rfl (by kernel_rfl) (by kernel_rfl) (by kernel_rfl) (fun _ _ _ h => h) (Or.inl ⟨by rfl, ?hy2⟩) hS0 ?_
            case hy2 => (intro w hSw; (try dsimp only at hSw); go_simp; try with_reducible rfl)
            try simp only [Act.put, List.setIfInBounds_toArray, List.set_cons_zero, List.set_cons_succ]
            refine wpAnyH_take (i := 2) (oi := { dst := some 107, op := Op.move (Operand.tmp 17), type := 3, pos := "law.go:128", after := #[], guard := none }) (v := ?_) rfl (by kernel_rfl) (by kernel_rfl) (by kernel_rfl) (fun _ _ _ h => h) (Or.inl ⟨by rfl, ?hy3⟩) hS0 ?_
            case hy3 => (intro w hSw; (try dsimp only at hSw); go_simp; try with_reducible rfl)
            try simp only [Act.put, List.setIfInBounds_toArray, List.set_cons_zero, List.set_cons_succ]
            refine wpAnyH_take (i := 3) (oi := { dst := some 108, op := Op.indexAddr 54 (Operand.tmp 106) (Operand.tmp 107), type := 0, pos := "law.go:128", after := #[{ on := 1, ground := Ground.data }, { on := 2, ground := Ground.data }], guard := none }) (v := ?_) rfl (by kernel_rfl) (by kernel_rfl) (by kernel_rfl) (fun _ _ _ h => h) (Or.inl ⟨by rfl, ?hy4⟩) hS0 ?_
            case hy4 => (intro w hSw; (try dsimp only at hSw); go_simp; try with_reducible rfl)
            try simp only [Act.put, List.setIfInBounds_toArray, List.set_cons_zero, List.set_cons_succ]
            refine wpAnyH_take (i := 4) (oi := { dst := some 109, op := Op.load 38 (Operand.tmp 108), type := 38, pos := "law.go:128", after := #[{ on := 3, ground := Ground.data }], guard := none }) (v := .agg #[.int .i64 p.1, .int .i64 p.2]) rfl (by kernel_rfl) (by kernel_rfl) (by kernel_rfl) (fun _ _ _ h => h) (yieldsIf_load_mid rfl 38 _ rfl b1 (j * 2) rfl [.int .i64 p.1, .int .i64 p.2] _ (fun _ hSw => hSw) Try.underlying38 rfl size38) hS0 ?_
            try simp only [Act.put, List.setIfInBounds_toArray, List.set_cons_zero, List.set_cons_succ]
            refine wpAnyH_take (i := 6) (oi := { dst := some 111, op := Op.move (Operand.tmp 8), type := 54, pos := "law.go:128", after := #[], guard := none }) (v := ?_) rfl (by kernel_rfl) (by kernel_rfl) (by kernel_rfl) (fun _ _ _ h => h) (Or.inl ⟨by rfl, ?hy6⟩) hS0 ?_
            case hy6 => (intro w hSw; (try dsimp only at hSw); go_simp; try with_reducible rfl)
            try simp only [Act.put, List.setIfInBounds_toArray, List.set_cons_zero, List.set_cons_succ]
            refine wpAnyH_take (i := 7) (oi := { dst := some 112, op := Op.move (Operand.tmp 9), type := 54, pos := "law.go:128", after := #[], guard := none }) (v := ?_) rfl (by kernel_rfl) (by kernel_rfl) (by kernel_rfl) (fun _ _ _ h => h) (Or.inl ⟨by rfl, ?hy7⟩) hS0 ?_
            case hy7 => (intro w hSw; (try dsimp only at hSw); go_simp; try with_reducible rfl)
            try simp only [Act.put, List.setIfInBounds_toArray, List.set_cons_zero, List.set_cons_succ]
            refine wpAnyH_take (i := 8) (oi := { dst := some 113, op := Op.move (Operand.tmp 17), type := 3, pos := "law.go:128", after := #[], guard := none }) (v := ?_) rfl (by kernel_rfl) (by kernel_rfl) (by kernel_rfl) (fun _ _ _ h => h) (Or.inl ⟨by rfl, ?hy8⟩) hS0 ?_
            case hy8 => (intro w hSw; (try dsimp only at hSw); go_simp; try with_reducible rfl)
            try simp only [Act.put, List.setIfInBounds_toArray, List.set_cons_zero, List.set_cons_succ]
            refine wpAnyH_take (i := 9) (oi := { dst := some 114, op := Op.indexAddr 54 (Operand.tmp 112) (Operand.tmp 113), type := 0, pos := "law.go:128", after := #[{ on := 7, ground := Ground.data }, { on := 8, ground := Ground.data }], guard := none }) (v := ?_) rfl (by kernel_rfl) (by kernel_rfl) (by kernel_rfl) (fun _ _ _ h => h) (Or.inl ⟨by rfl, ?hy9⟩) hS0 ?_
            case hy9 => (intro w hSw; (try dsimp only at hSw); go_simp; try with_reducible rfl)
            try simp only [Act.put, List.setIfInBounds_toArray, List.set_cons_zero, List.set_cons_succ]
            refine wpAnyH_take (i := 10) (oi := { dst := some 115, op := Op.load 38 (Operand.tmp 114), type := 38, pos := "law.go:128", after := #[{ on := 9, ground := Ground.data }], guard := none }) (v := .agg #[.int .i64 p.1, .int .i64 p.2]) rfl (by kernel_rfl) (by kernel_rfl) (by kernel_rfl) (fun _ _ _ h => h) (yieldsIf_load_mid rfl 38 _ rfl b1 (j * 2) rfl [.int .i64 p.1, .int .i64 p.2] _ (fun _ hSw => hSw) Try.underlying38 rfl size38) hS0 ?_
            try simp only [Act.put, List.setIfInBounds_toArray, List.set_cons_zero, List.set_cons_succ]
            refine wpAnyH_ready (rs := [5]) (by kernel_rfl) (by simp) ?_
            refine AllReadyH.cons (o := { dst := some 110, op := Op.call { callee := Callee.value (Operand.func 24), args := #[Operand.tmp 105, Operand.tmp 109], argTypes := #[54, 38] }, type := 3, pos := "law.go:128", after := #[{ on := 0, ground := Ground.data }, { on := 4, ground := Ground.data }], guard := none }) rfl (fun K hK => ?_) ?_
            · go_simp; with_reducible refine (C1.out _ T1).mono ?_; rintro en Wq1 ⟨rfl, Tq1⟩; have T2 := T1.trans Tq1; go_simp
              refine hK.out _ _ ?hs11 (fun hS11 => ?_)
              case hs11 => ((try dsimp only); first | exact KS.out _ T1 | exact KS.out _ T2 | exact KS.out _ T3)
              clear hK K hS0
              refine wpAnyH_ready (rs := [11]) (by kernel_rfl) (by simp) ?_
              refine AllReadyH.cons (o := { dst := some 116, op := Op.call { callee := Callee.value (Operand.func 24), args := #[Operand.tmp 111, Operand.tmp 115], argTypes := #[54, 38] }, type := 3, pos := "law.go:128", after := #[{ on := 6, ground := Ground.data }, { on := 10, ground := Ground.data }, { on := 5, ground := Ground.chain }], guard := none }) rfl (fun K hK => ?_) ?_
              · go_simp; with_reducible refine (C2.out _ T2).mono ?_; rintro en Wq2 ⟨rfl, Tq2⟩; have T3 := T2.trans Tq2; go_simp
                refine hK.out _ _ ?hs12 (fun hS12 => ?_)
                case hs12 => ((try dsimp only); first | exact KS.out _ T1 | exact KS.out _ T2 | exact KS.out _ T3)
                clear hK K hS11
                refine wpAnyH_take (i := 12) (oi := { dst := some 117, op := Op.binOp BinOp.gtr 3 (Operand.tmp 110) (Operand.tmp 116) 3, type := 4, pos := "law.go:128", after := #[{ on := 5, ground := Ground.data }, { on := 11, ground := Ground.data }], guard := none }) (v := ?_) rfl (by kernel_rfl) (by kernel_rfl) (by kernel_rfl) (fun _ _ _ h => h) (Or.inl ⟨by rfl, ?hy13⟩) hS12 ?_
                case hy13 => (intro w hSw; (try dsimp only at hSw); go_simp; try with_reducible rfl)
                try simp only [Act.put, List.setIfInBounds_toArray, List.set_cons_zero, List.set_cons_succ]
                refine wpAnyH_done (by kernel_rfl) ?_ _
                go_wp2_with fail
                go_roundg (G.length - (j + 1))
                case measure => have := G5.out.1; have := G5.out.2; omega
                case rel => first | exact STEP.out _ T3 | (rw [ej]; exact STEP.out _ T3)
              exact AllReadyH.nil
            exact AllReadyH.nil
          · obtain rfl : j = G.length := Nat.le_antisymm hj (Nat.not_lt.1 hjl)
            have t1 : decide ((G.length : Int) < (G.length : Int)) = false := decide_eq_false (Int.lt_irrefl _)
            have t2 : decide (G.length < G.length) = false := decide_eq_false (Nat.lt_irrefl _)
            have FIN := Lib.hid (show Below w.heap.size w WR from (CG.out.2.2.2.2.trans T4).below (fun k hk => ⟨hk, id⟩))
            have c0 := HC0.out
            have c1 : decide ((0 : Int) ≤ cc) = true := decide_eq_true c0
            clear hgj T4 hjl hj CG
            go_wp2
            go_ret
            exact ⟨rfl, FIN.out⟩
      · have u1 : decide ((i : Int) < (L.length : Int)) = false := decide_eq_false (fun h => h4 (Int.ofNat_lt.1 h))
        have u2 : decide (i < L.length) = false := decide_eq_false h4
        clear hi hlt HA h4
        go_wp2_with fail
        go_loopg [17] G.length (fun gh v17 W => GnRel G wr gh v17 W)
        case atStart => exact R4
        case round =>
          clear R4
          obtain ⟨j, rfl, hj, hgj, T4⟩ := hrel
          rename World => WR
          by_cases hjl : j < G.length
          · obtain ⟨p, hp⟩ : ∃ p, G[j]? = some p := ⟨_, List.getElem?_eq_getElem hjl⟩
            obtain ⟨CLE, CA, CB, ⟨a1, b1, c1, e0, e1, hx⟩, TB⟩ := CG.out
            obtain ⟨rfl, rfl⟩ : ga = a1 ∧ gc = c1 := by injection e0 with z1 z2 z3; exact ⟨z1, z3⟩
            obtain rfl := e1.resolve_left (fun e => by rw [e] at hjl; simp at hjl)
            have hr := range_turn (hx j p hp) T4 id
            have t1 : decide ((j : Int) < (G.length : Int)) = true := decide_eq_true (natcast_lt hjl)
            have t2 : decide (j < G.length) = true := decide_eq_true hjl
            have hi1 : (j : Int) < (G.length : Int) := natcast_lt hjl
            have hi0 : (0 : Int) ≤ (j : Int) := Int.natCast_nonneg j
            have ej : wrap64 ((j : Int) + 1) = (j : Int) + 1 := wrap_is (by have := LG.out; omega)
            have C1 := Lib.hid (fun V (t : Turn (fun _ => False) WR V) => (CA V (T4.trans t) p))
            have C2 := Lib.hid (fun V (t : Turn (fun _ => False) WR V) => (CB V (T4.trans t) p))
            have KS := Lib.hid (show ∀ w1, Turn (fun _ => False) WR w1 → w1.rangeAt b1 (j * 2) [.int .i64 p.1, .int .i64 p.2] from fun w1 t => range_turn hr t id)
            have hcl : decide ((cntR p R : Int) < (cntR p G : Int)) = false := decide_eq_false (by have := CLE p; omega)
            have hcl2 : decide (cntR p R < cntR p G) = false := decide_eq_false (by have := CLE p; omega)
            have STEP := Lib.hid (show ∀ V, Turn (fun _ => False) WR V → GnRel G wr (G.length - (j + 1)) (.int .i64 ((j : Int) + 1)) V from fun V t => ⟨j + 1, congrArg (Value.int .i64) (Int.natCast_succ j).symm, hjl, rfl, T4.trans t⟩)
            have G5 := Lib.hid (And.intro hgj hjl)
            have T1 : Turn (fun _ => False) WR WR.drew := (Turn.refl _ WR).drewN 1
            clear hr hgj T4 hjl hp hj CLE CA CB hx TB e0 e1
            generalize cntR p R = cr at *
            generalize cntR p G = cg at *
            go_upto_region 27 with fail
            refine wp_region_held_drew (S := (fun w' => w'.rangeAt b1 (j * 2) [.int .i64 p.1, .int .i64 p.2])) (by kernel_rfl) ?hs0 (fun hS0 => ?_)
            case hs0 => ((try dsimp only); first | exact KS.out _ T1 | exact KS.out _ T2 | exact KS.out _ T3)
            refine wpAnyH_take (i := 0) (oi := { dst := some 105, op := Op.move (Operand.tmp 9), type := 54, pos := "law.go:128", after := #[], guard := none }) (v := ?_) rfl (by kernel_rfl) (by kernel_rfl) (by kernel_rfl) (fun _ _ _ h => h) (Or.inl ⟨by rfl, ?hy1⟩) hS0 ?_
            case hy1 => (intro w hSw; (try dsimp only at hSw); go_simp; try with_reducible rfl)
            try simp only [Act.put, List.setIfInBounds_toArray, List.set_cons_zero, List.set_cons_succ]
            refine wpAnyH_take (i := 1) (oi := { dst := some 106, op := Op.move (Operand.tmp 9), type := 54, pos := "law.go:128", after := #[], guard := none }) (v := ?_) rfl (by kernel_rfl) (by kernel_rfl) (by kernel_rfl) (fun _ _ _ h => h) (Or.inl ⟨by rfl, ?hy2⟩) hS0 ?_
            case hy2 => (intro w hSw; (try dsimp only at hSw); go_simp; try with_reducible rfl)
            try simp only [Act.put, List.setIfInBounds_toArray, List.set_cons_zero, List.set_cons_succ]
            refine wpAnyH_take (i := 2) (oi := { dst := some 107, op := Op.move (Operand.tmp 17), type := 3, pos := "law.go:128", after := #[], guard := none }) (v := ?_) rfl (by kernel_rfl) (by kernel_rfl) (by kernel_rfl) (fun _ _ _ h => h) (Or.inl ⟨by rfl, ?hy3⟩) hS0 ?_
            case hy3 => (intro w hSw; (try dsimp only at hSw); go_simp; try with_reducible rfl)
            try simp only [Act.put, List.setIfInBounds_toArray, List.set_cons_zero, List.set_cons_succ]
            refine wpAnyH_take (i := 3) (oi := { dst := some 108, op := Op.indexAddr 54 (Operand.tmp 106) (Operand.tmp 107), type := 0, pos := "law.go:128", after := #[{ on := 1, ground := Ground.data }, { on := 2, ground := Ground.data }], guard := none }) (v := ?_) rfl (by kernel_rfl) (by kernel_rfl) (by kernel_rfl) (fun _ _ _ h => h) (Or.inl ⟨by rfl, ?hy4⟩) hS0 ?_
            case hy4 => (intro w hSw; (try dsimp only at hSw); go_simp; try with_reducible rfl)
            try simp only [Act.put, List.setIfInBounds_toArray, List.set_cons_zero, List.set_cons_succ]
            refine wpAnyH_take (i := 4) (oi := { dst := some 109, op := Op.load 38 (Operand.tmp 108), type := 38, pos := "law.go:128", after := #[{ on := 3, ground := Ground.data }], guard := none }) (v := .agg #[.int .i64 p.1, .int .i64 p.2]) rfl (by kernel_rfl) (by kernel_rfl) (by kernel_rfl) (fun _ _ _ h => h) (yieldsIf_load_mid rfl 38 _ rfl b1 (j * 2) rfl [.int .i64 p.1, .int .i64 p.2] _ (fun _ hSw => hSw) Try.underlying38 rfl size38) hS0 ?_
            try simp only [Act.put, List.setIfInBounds_toArray, List.set_cons_zero, List.set_cons_succ]
            refine wpAnyH_take (i := 6) (oi := { dst := some 111, op := Op.move (Operand.tmp 8), type := 54, pos := "law.go:128", after := #[], guard := none }) (v := ?_) rfl (by kernel_rfl) (by kernel_rfl) (by kernel_rfl) (fun _ _ _ h => h) (Or.inl ⟨by rfl, ?hy6⟩) hS0 ?_
            case hy6 => (intro w hSw; (try dsimp only at hSw); go_simp; try with_reducible rfl)
            try simp only [Act.put, List.setIfInBounds_toArray, List.set_cons_zero, List.set_cons_succ]
            refine wpAnyH_take (i := 7) (oi := { dst := some 112, op := Op.move (Operand.tmp 9), type := 54, pos := "law.go:128", after := #[], guard := none }) (v := ?_) rfl (by kernel_rfl) (by kernel_rfl) (by kernel_rfl) (fun _ _ _ h => h) (Or.inl ⟨by rfl, ?hy7⟩) hS0 ?_
            case hy7 => (intro w hSw; (try dsimp only at hSw); go_simp; try with_reducible rfl)
            try simp only [Act.put, List.setIfInBounds_toArray, List.set_cons_zero, List.set_cons_succ]
            refine wpAnyH_take (i := 8) (oi := { dst := some 113, op := Op.move (Operand.tmp 17), type := 3, pos := "law.go:128", after := #[], guard := none }) (v := ?_) rfl (by kernel_rfl) (by kernel_rfl) (by kernel_rfl) (fun _ _ _ h => h) (Or.inl ⟨by rfl, ?hy8⟩) hS0 ?_
            case hy8 => (intro w hSw; (try dsimp only at hSw); go_simp; try with_reducible rfl)
            try simp only [Act.put, List.setIfInBounds_toArray, List.set_cons_zero, List.set_cons_succ]
            refine wpAnyH_take (i := 9) (oi := { dst := some 114, op := Op.indexAddr 54 (Operand.tmp 112) (Operand.tmp 113), type := 0, pos := "law.go:128", after := #[{ on := 7, ground := Ground.data }, { on := 8, ground := Ground.data }], guard := none }) (v := ?_) rfl (by kernel_rfl) (by kernel_rfl) (by kernel_rfl) (fun _ _ _ h => h) (Or.inl ⟨by rfl, ?hy9⟩) hS0 ?_
            case hy9 => (intro w hSw; (try dsimp only at hSw); go_simp; try with_reducible rfl)
            try simp only [Act.put, List.setIfInBounds_toArray, List.set_cons_zero, List.set_cons_succ]
            refine wpAnyH_take (i := 10) (oi := { dst := some 115, op := Op.load 38 (Operand.tmp 114), type := 38, pos := "law.go:128", after := #[{ on := 9, ground := Ground.data }], guard := none }) (v := .agg #[.int .i64 p.1, .int .i64 p.2]) rfl (by kernel_rfl) (by kernel_rfl) (by kernel_rfl) (fun _ _ _ h => h) (yieldsIf_load_mid rfl 38 _ rfl b1 (j * 2) rfl [.int .i64 p.1, .int .i64 p.2] _ (fun _ hSw => hSw) Try.underlying38 rfl size38) hS0 ?_
            try simp only [Act.put, List.setIfInBounds_toArray, List.set_cons_zero, List.set_cons_succ]
            refine wpAnyH_ready (rs := [5]) (by kernel_rfl) (by simp) ?_
            refine AllReadyH.cons (o := { dst := some 110, op := Op.call { callee := Callee.value (Operand.func 24), args := #[Operand.tmp 105, Operand.tmp 109], argTypes := #[54, 38] }, type := 3, pos := "law.go:128", after := #[{ on := 0, ground := Ground.data }, { on := 4, ground := Ground.data }], guard := none }) rfl (fun K hK => ?_) ?_
            · go_simp; with_reducible refine (C1.out _ T1).mono ?_; rintro en Wq1 ⟨rfl, Tq1⟩; have T2 := T1.trans Tq1; go_simp
              refine hK.out _ _ ?hs11 (fun hS11 => ?_)
              case hs11 => ((try dsimp only); first | exact KS.out _ T1 | exact KS.out _ T2 | exact KS.out _ T3)
              clear hK K hS0
              refine wpAnyH_ready (rs := [11]) (by kernel_rfl) (by simp) ?_
              refine AllReadyH.cons (o := { dst := some 116, op := Op.call { callee := Callee.value (Operand.func 24), args := #[Operand.tmp 111, Operand.tmp 115], argTypes := #[54, 38] }, type := 3, pos := "law.go:128", after := #[{ on := 6, ground := Ground.data }, { on := 10, ground := Ground.data }, { on := 5, ground := Ground.chain }], guard := none }) rfl (fun K hK => ?_) ?_
              · go_simp; with_reducible refine (C2.out _ T2).mono ?_; rintro en Wq2 ⟨rfl, Tq2⟩; have T3 := T2.trans Tq2; go_simp
                refine hK.out _ _ ?hs12 (fun hS12 => ?_)
                case hs12 => ((try dsimp only); first | exact KS.out _ T1 | exact KS.out _ T2 | exact KS.out _ T3)
                clear hK K hS11
                refine wpAnyH_take (i := 12) (oi := { dst := some 117, op := Op.binOp BinOp.gtr 3 (Operand.tmp 110) (Operand.tmp 116) 3, type := 4, pos := "law.go:128", after := #[{ on := 5, ground := Ground.data }, { on := 11, ground := Ground.data }], guard := none }) (v := ?_) rfl (by kernel_rfl) (by kernel_rfl) (by kernel_rfl) (fun _ _ _ h => h) (Or.inl ⟨by rfl, ?hy13⟩) hS12 ?_
                case hy13 => (intro w hSw; (try dsimp only at hSw); go_simp; try with_reducible rfl)
                try simp only [Act.put, List.setIfInBounds_toArray, List.set_cons_zero, List.set_cons_succ]
                refine wpAnyH_done (by kernel_rfl) ?_ _
                go_wp2_with fail
                go_roundg (G.length - (j + 1))
                case measure => have := G5.out.1; have := G5.out.2; omega
                case rel => first | exact STEP.out _ T3 | (rw [ej]; exact STEP.out _ T3)
              exact AllReadyH.nil
            exact AllReadyH.nil
          · obtain rfl : j = G.length := Nat.le_antisymm hj (Nat.not_lt.1 hjl)
            have t1 : decide ((G.length : Int) < (G.length : Int)) = false := decide_eq_false (Int.lt_irrefl _)
            have t2 : decide (G.length < G.length) = false := decide_eq_false (Nat.lt_irrefl _)
            have FIN := Lib.hid (show Below w.heap.size w WR from (CG.out.2.2.2.2.trans T4).below (fun k hk => ⟨hk, id⟩))
            have c0 := HC0.out
            have c1 : decide ((0 : Int) ≤ cc) = true := decide_eq_true c0
            clear hgj T4 hjl hj CG
            go_wp2
            go_ret
            exact ⟨rfl, FIN.out⟩
end Go.Proofs.Ytepmealhnnoahaa
