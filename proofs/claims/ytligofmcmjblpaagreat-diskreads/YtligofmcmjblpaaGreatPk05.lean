import Derived.Maps.AppendAt
import Derived.Test.YtligofmcmjblpaaGreatPk03
import Derived.Test.YtligofmcmjblpaaGreatPk04
/- The document's own disk: directories: copied, with a name less, with a name more. -/
namespace Go.Proofs.YtligofmcmjblpaaGreat
open Go.RowKit
set_option linter.unusedVariables false
set_option linter.unusedSimpArgs false

theorem _root_.Go.Proofs.Tryz.info102 : (Tryz.prog.info? 102).map (fun i => (i.zero, i.size, i.bytes)) = some (some (.agg #[.string ⟨#[]⟩, .pointer none]), 2, 24) := by kernel_rfl
/-- A directory that is being built, from block B on. -/
def DRow (B : Nat) (w : World) (loc : Nat → Nat) (v : Value) (l : List Ent) : Prop := w.ownsRow B 102 2 v l.length (entC loc l)
theorem DRow.nil (B : Nat) (w : World) (loc : Nat → Nat) : DRow B w loc (.slice none 0 0) [] := World.ownsRow_nil w B 102 2
theorem entC_one (loc : Nat → Nat) (l : List Ent) : ∀ u ∈ entC loc l, u.oneCell' = true := fun u hu => by
  simp only [entC, List.mem_flatMap] at hu
  obtain ⟨e, _, h⟩ := hu
  simp only [List.mem_cons, List.not_mem_nil, or_false] at h
  rcases h with rfl | rfl <;> rfl
theorem DRow.below {B : Nat} {w w' : World} {loc : Nat → Nat} {v : Value} {l : List Ent} (h : DRow B w loc v l) (hb : Below w.heap.size w w') : DRow B w' loc v l :=
  owns_same h fun g e => hb.block g (owns_ty h e).lt

theorem run_ent (B : Nat) (w : World) (ty : TypeId) (loc : Nat → Nat) (v : Value) (l : List Ent) (hrow : DRow B w loc v l) (ao : Option Addr) (m c : Nat) (l2 : List Ent) (hm : m = l2.length) (hnil : ao = none → m = 0 ∧ c = 0)
    (hc : ∀ (j : Nat) (u : Value), (entC loc l2)[j]? = some u → ∃ b, ao = some ⟨b, 0, none⟩ ∧ w.cell? ⟨b, j, none⟩ = some u) (hb : l.length + m ≤ 2 ^ 41) (hbase : B ≤ w.heap.size) :
    ∃ v' w', (Builtin.append_ #[53, 53] ty #[v, .slice ao m c]).run Tryz.prog w = .ok v' w' ∧ DRow B w' loc v' (l ++ l2) ∧ w.grownBy w' v.ownBlock ∧ (v'.ownBlock = v.ownBlock ∨ v'.ownBlock = some w.heap.size) := by
  obtain ⟨i, hi, hz, hsize, hbytes⟩ := info_parts Tryz.info102
  cases ao with
  | none =>
    obtain ⟨h1, rfl⟩ := hnil rfl
    subst h1
    obtain rfl : l2 = [] := List.length_eq_zero_iff.1 hm.symm
    refine ⟨v, w, run_append_owned_none (P := Tryz.prog) (w := w) B 53 ty 102 i 2 Tryz.underlying53 hi v _ _ hrow, ?_, ⟨rfl, rfl, rfl, Nat.le_refl _, fun _ _ _ => rfl⟩, .inl rfl⟩
    rw [List.append_nil]
    exact hrow
  | some ad =>
    have hl : (entC loc l2).length = m * 2 := by rw [entC_length, hm]
    have hnews : ∀ j u, (entC loc l2)[j]? = some u → w.cell? (ad.add j) = some u := fun j u hu => by
      obtain ⟨b, e, x⟩ := hc j u hu
      simp only [Option.some.injEq] at e
      subst e
      rw [Addr.add_lit, Nat.zero_add]
      exact x
    obtain ⟨v', w', hr, h2, h3, _, h5⟩ := run_append_own_at (P := Tryz.prog) w B 53 ty 102 i _ 2 24 Tryz.underlying53 hi hz hsize hbytes rfl (by decide) v l.length _ hrow ad m c _ hl hnews (entC_one loc l2) (by simp only [maxLen]; omega) (by omega) hbase
    refine ⟨v', w', hr, ?_, h3, h5⟩
    unfold DRow
    rw [entC_app, List.length_append, ← hm]
    exact h2
theorem wpList_ent {w : World} {ops : Array Oper} {rest : List Oper} {o : Oper} {a : Act} {Q : Exit → Act → World → Prop} (hgd : o.guard = none) (s x : Operand)
    (ho : o.op = .call { callee := .builtin .append, args := #[s, x], argTypes := #[53, 53] }) (B : Nat) (loc : Nat → Nat) (v : Value) (l : List Ent) (hs : a.eval s = v) (hrow : DRow B w loc v l) (ao : Option Addr) (m c : Nat) (l2 : List Ent) (hx : a.eval x = .slice ao m c)
    (hm : m = l2.length) (hnil : ao = none → m = 0 ∧ c = 0) (hc : ∀ (j : Nat) (u : Value), (entC loc l2)[j]? = some u → ∃ b, ao = some ⟨b, 0, none⟩ ∧ w.cell? ⟨b, j, none⟩ = some u) (hb : l.length + m ≤ 2 ^ 41) (hbase : B ≤ w.heap.size)
    (h : ∀ v' w', DRow B w' loc v' (l ++ l2) → w.grownBy w' v.ownBlock → (v'.ownBlock = v.ownBlock ∨ v'.ownBlock = some w.heap.size) → wpList Tryz.prog ops Q rest (a.put o.dst v') w') : wpList Tryz.prog ops Q (o :: rest) a w := by
  refine wpList_plain hgd fun _ hK => ?_
  obtain ⟨v', w', hr, h2, h3, h4⟩ := run_ent B w o.type loc v l hrow ao m c l2 hm hnil hc hb hbase
  unfold Oper.wp execOp
  simp only [ho, resolve, invoke, builtin, Sem.run_bind, Sem.run_pure, Result.andThen_ok, List.map_toArray, List.map_cons, List.map_nil, hs, hx, hr]
  exact hK _ _ (h v' w' h2 h3 h4)
/-- One entry that was just laid for an append. -/
theorem wpList_ent1 {w : World} {ops : Array Oper} {rest : List Oper} {o : Oper} {a : Act} {Q : Exit → Act → World → Prop} (hgd : o.guard = none) (s x : Operand)
    (ho : o.op = .call { callee := .builtin .append, args := #[s, x], argTypes := #[53, 53] }) (B : Nat) (loc : Nat → Nat) (v : Value) (l : List Ent) (nm : ByteArray) (i : Nat) (hs : a.eval s = v) (hrow : DRow B w loc v l) (g : Nat) (hx : a.eval x = .slice (some ⟨g, 0, none⟩) 1 1) (hg : g = w.heap.size)
    (hb : l.length + 1 ≤ 2 ^ 41) (hbase : B ≤ w.heap.size)
    (h : ∀ v' w', DRow B w' loc v' (l ++ [(nm, i)]) → Below B w w' → w.grownBy w' v.ownBlock → wpList Tryz.prog ops Q rest (a.put o.dst v') w') : wpList Tryz.prog ops Q (o :: rest) a (w.alloc (.cells #[.string nm, .pointer (some ⟨loc i, 0, none⟩)] 102)) := by
  subst hg
  have hrow' : DRow B (w.alloc (.cells #[.string nm, .pointer (some ⟨loc i, 0, none⟩)] 102)) loc v l := World.ownsRow.alloc hrow _
  have hB' : B ≤ (w.alloc (.cells #[.string nm, .pointer (some ⟨loc i, 0, none⟩)] 102)).heap.size := by simp; omega
  refine wpList_ent hgd s x ho B loc v l hs hrow' _ 1 1 [(nm, i)] hx rfl (fun e => by cases e) (fun j u hu => ⟨_, rfl, ?_⟩) hb hB' fun v' w' h1 h2 _ => h v' w' h1 ?_ (grown_trans (World.grownBy_alloc w _ _) h2)
  · have hj : j = 0 ∨ j = 1 := by
      have := (List.getElem?_eq_some_iff.1 hu).1
      rw [entC_length] at this
      simp at this
      omega
    rcases hj with rfl | rfl
    · simp [entC] at hu
      rw [← hu]
      simp
    · simp [entC, ptr] at hu
      rw [← hu]
      simp
  · exact ((Below.refl B w).alloc hbase _).trans (Below.grown (Below.refl _ _) h2 hB' (fun k hk => (World.ownsRow.lt hrow' k hk).1))

/-- What a round laid for its entry stands behind an append to another row. -/
theorem ent_after {B : Nat} {wr w1 : World} {loc : Nat → Nat} {v x y : Value} {l : List Ent} (hr : DRow B wr loc v l) (hg : (wr.alloc (.cells #[x, y] 102)).grownBy w1 v.ownBlock) : w1.cell? ⟨wr.heap.size, 0, none⟩ = some x ∧ w1.cell? ⟨wr.heap.size, 1, none⟩ = some y := by
  have ne : some wr.heap.size ≠ v.ownBlock := fun e => by
    have := (World.ownsRow.lt hr _ e.symm).2
    omega
  exact ⟨World.grownBy.cell hg (by simp) ne, World.grownBy.cell hg (by simp) ne⟩

set_option maxHeartbeats 1000000 in
theorem rcopied_any (F : Nat → Prop) (loc : Nat → Nat) (lv : Value) (l : List Ent) (w : World) (hl : DirR w F loc lv l) (hn : l.length ≤ 2 ^ 40) :
    Calls Tryz.prog 74 #[lv] w fun e w' => ∃ v, e = .returned v ∧ DRow w.heap.size w' loc v l ∧ Below w.heap.size w w' := by
  obtain ⟨ao, cap, rfl, hlc, hcm, hnil, hcell⟩ := hl.cells
  have hc : ∀ (j : Nat) (u : Value), (entC loc l)[j]? = some u → ∃ b, ao = some ⟨b, 0, none⟩ ∧ w.cell? ⟨b, j, none⟩ = some u := fun j u hu => by
    have hj := (List.getElem?_eq_some_iff.1 hu).1
    rw [entC_length] at hj
    obtain ⟨g, a, i, e, xk, _, x1, x2⟩ := hcell (j / 2) (by omega)
    have hlk : j / 2 < l.length := by omega
    have ea : l[j / 2] = (a, i) := by rw [List.getElem?_eq_getElem hlk] at xk; simpa using xk
    have := entC_at loc l (j / 2) hlk
    rw [ea] at this
    refine ⟨g, e, ?_⟩
    have hj2 : j = j / 2 * 2 ∨ j = j / 2 * 2 + 1 := by omega
    rcases hj2 with h | h
    · rw [h, this.1] at hu
      rw [h, x1, hu]
    · rw [h, this.2] at hu
      rw [h, x2, hu]
  have HX : Hid ((∀ (j : Nat) (u : Value), (entC loc l)[j]? = some u → ∃ b, ao = some ⟨b, 0, none⟩ ∧ w.cell? ⟨b, j, none⟩ = some u) ∧ (ao = none → l.length = 0 ∧ cap = 0) ∧ l.length ≤ 2 ^ 40) := ⟨hc, hnil, hn⟩
  clear hc hcell hlc hcm hnil hl
  go_enter Tryz.func74, Tryz.ntmps74
  go_wp2_with (at_builtin; refine wpList_ent rfl (.const (.slice none 0 0)) (.tmp 3) rfl w.heap.size loc _ [] rfl (DRow.nil _ _ _) ao l.length cap l rfl rfl HX.out.2.1 HX.out.1 (by have := HX.out; simp; omega) (Nat.le_refl _) ?_; intro v1 w1 hr1 hg1 hm1)
  go_ret
  exact ⟨_, rfl, hr1, grown_none hg1⟩
end Go.Proofs.YtligofmcmjblpaaGreat

/- The document's own disk: a name less, a name more. -/
namespace Go.Proofs.YtligofmcmjblpaaGreat
open Go.RowKit
set_option linter.unusedVariables false
set_option linter.unusedSimpArgs false

theorem drp_snoc (l : List Ent) (e : Ent) (s : ByteArray) : drp (l ++ [e]) s = if (e.1.toList == s.toList) = true then drp l s else drp l s ++ [e] := by
  simp only [drp, List.filter_append, List.filter_cons, List.filter_nil]
  by_cases h : (e.1.toList == s.toList) = true
  · simp only [h, Bool.not_true, if_true, Bool.false_eq_true, if_false, List.append_nil]
  · simp only [h, Bool.not_false, if_true, Bool.false_eq_true, if_false]
theorem DRow.slice {B : Nat} {w : World} {loc : Nat → Nat} {v : Value} {l : List Ent} (h : DRow B w loc v l) : ∃ ao n c, v = .slice ao n c := by
  rcases h.2 with ⟨rfl, _⟩ | ⟨g, cap, cur, rfl, _⟩
  · exact ⟨_, _, _, rfl⟩
  · exact ⟨_, _, _, rfl⟩
theorem Dk.later {w w' : World} {p : Nat} {room : Int} {lv wv : Value} {c : Cn} (h : Dk w p room lv wv c) (hb : Below w.heap.size w w') : Dk w' p room lv wv c := by
  unfold Dk
  rw [hb.block p h.ty.lt]
  exact h
theorem take_snoc {l : List Ent} {k : Nat} {e : Ent} (h : l[k]? = some e) : l.take (k + 1) = l.take k ++ [e] := by
  rw [List.take_add_one, h]
  rfl

set_option maxHeartbeats 1000000 in
set_option maxRecDepth 100000 in
theorem rdrop_any (p : Nat) (room : Int) (lv wv : Value) (c : Cn) (F : Nat → Prop) (loc : Nat → Nat) (l : List Ent) (s : ByteArray) (w : World) (hd : Dk w p room lv wv c) (hl : DirR w F loc lv l) (hn : l.length ≤ 2 ^ 40) :
    Calls Tryz.prog 73 #[ptr p, .string s] w fun e w' => e = .returned (.tuple #[]) ∧ ∃ v, Dk w' p room v wv c ∧ DRow w.heap.size w' loc v (drp l s) ∧ w.grownBy w' (some p) := by
  obtain ⟨ao, cap, rfl, hlc, hcm, hnil, hcell⟩ := hl.cells
  have c1 := cell_of hd 1
  have f1 := frozen_of hd 1
  simp only [List.getElem?_toArray, List.getElem?_cons_succ, List.getElem?_cons_zero] at c1
  obtain ⟨n, hnn⟩ : ∃ n, n = l.length := ⟨_, rfl⟩
  have HC : Hid (∀ k, k < l.length → ∃ g a i, ao = some ⟨g, 0, none⟩ ∧ l[k]? = some (a, i) ∧ l.drop k = (a, i) :: l.drop (k + 1) ∧ w.cell? ⟨g, k * 2, none⟩ = some (.string a) ∧ w.cell? ⟨g, k * 2 + 1, none⟩ = some (ptr (loc i))) := hcell
  have HN : Hid (n = l.length ∧ n ≤ 2 ^ 40 ∧ p < w.heap.size) := ⟨hnn, by omega, hd.ty.lt⟩
  have HD : Hid (Dk w p room (.slice ao l.length cap) wv c) := hd
  have hn' : n ≤ 2 ^ 40 := by omega
  rw [← hnn] at c1
  clear hd hl hlc hcm hnil hcell hn hnn
  unfold ptr at *
  go_enter Tryz.func73, Tryz.ntmps73
  go_wp2_with fail
  go_loopg [4, 12] n (fun g v i wr => ∃ k : Nat, k + g = n ∧ i = .int .i64 (k : Int) ∧ Below w.heap.size w wr ∧ Hid (DRow w.heap.size wr loc v (drp (l.take k) s)))
  case atStart => exact ⟨0, by omega, rfl, Below.refl _ _, DRow.nil _ _ _⟩
  case round =>
    obtain ⟨k, hk, rfl, hw, HT⟩ := hrel
    obtain ⟨oa, on, oc, rfl⟩ := DRow.slice HT.out
    by_cases h : k < n
    · have h' : (k : Int) < (n : Int) := by omega
      obtain ⟨g, a, i, rfl, xk, xd, x1, x2⟩ := HC.out k (by have := HN.out; omega)
      have y1 := cell_later hw x1
      have y2 := cell_later hw x2
      obtain ⟨GK, HG⟩ : ∃ g, Hid (g < gk ∧ k + 1 + g = n) := ⟨gk - 1, by omega, by omega⟩
      have HW : Hid (Below w.heap.size w wr) := hw
      have hds := drp_snoc (l.take k) (a, i) s
      rw [← take_snoc xk] at hds
      have hlen : (drp (l.take k) s).length ≤ k := Nat.le_trans (drp_le _ _) (by rw [List.length_take]; omega)
      have HL : Hid ((drp (l.take k) s).length + 1 ≤ 2 ^ 41) := by show _ + 1 ≤ _; omega
      clear hk x1 x2 hw xd xk hlen
      by_cases q : (a.toList == s.toList) = true
      · rw [if_pos q] at hds
        have HR : Hid (drp (l.take (k + 1)) s = drp (l.take k) s) := hds
        clear hds
        go_wp2_with fail
        go_roundg GK
        case measure => exact HG.out.1
        case rel => exact ⟨k + 1, HG.out.2, by go_num, HW.out.alloc HW.out.size _, by show DRow _ _ _ _ _; rw [HR.out]; exact World.ownsRow.alloc HT.out _⟩
      · rw [if_neg q] at hds
        have HR : Hid (drp (l.take (k + 1)) s = drp (l.take k) s ++ [(a, i)]) := hds
        have q' : (a.toList == s.toList) = false := by simpa using q
        clear hds q
        go_wp2_with (at_builtin; refine wpList_ent1 rfl (.tmp 20) (.tmp 22) rfl w.heap.size loc _ (drp (l.take k) s) a i rfl (World.ownsRow.alloc HT.out _) _ rfl (by simp) HL.out (by have := HW.out.size; simp; omega) ?_; intro v1 w1 hr1 hb1 _)
        go_roundg GK
        case measure => exact HG.out.1
        case rel => exact ⟨k + 1, HG.out.2, by go_num, (HW.out.alloc HW.out.size _).trans hb1, by show DRow _ _ _ _ _; rw [HR.out]; exact hr1⟩
    · have h' : (n : Int) ≤ (k : Int) := by omega
      have ht := HT.out
      rw [List.take_of_length_le (by have := HN.out; omega)] at ht
      have HT2 : Hid (DRow w.heap.size wr loc (.slice oa on oc) (drp l s)) := ht
      have f2 := (hw.frozen (p := ⟨p, 1, none⟩) HN.out.2.2).trans f1
      have c2 := cell_later hw c1
      clear ht
      go_wp2_with fail
      go_end0
      exact ⟨rfl, _, (HD.out.later hw).set1 _, ownsRow_setCell_below HT2.out HN.out.2.2 _, grown_trans (below_grown hw _) (grown_set _ _ _ _)⟩

theorem less_ne {a b : List UInt8} (h : Op.bytesLess a b = true) : (a == b) = false := by
  have irr : ∀ x : List UInt8, Op.bytesLess x x = false := by
    intro x
    induction x with
    | nil => rfl
    | cons c r ih => simp [Op.bytesLess, ih]
  cases e : (a == b) with
  | false => rfl
  | true =>
    rw [beq_iff_eq] at e
    rw [e, irr] at h
    cases h
/-- What of a directory with a name more stands there behind its first k. -/
def ptk (l : List Ent) (s : ByteArray) (i : Nat) (k : Nat) : List Ent × Bool := if (l.take k).all (fun e => Op.bytesLess e.1.toList s.toList) = true then (l.take k, false) else (pt (l.take k) s i, true)
theorem pt_less : ∀ (l : List Ent) (s : ByteArray) (i : Nat), l.all (fun e => Op.bytesLess e.1.toList s.toList) = true → pt l s i = l ++ [(s, i)]
  | [], s, i, _ => rfl
  | e :: r, s, i, h => by
    rw [List.all_cons, Bool.and_eq_true] at h
    rw [pt, if_pos h.1, pt_less r s i h.2]
    rfl
theorem drp_app (l m : List Ent) (s : ByteArray) : drp (l ++ m) s = drp l s ++ drp m s := List.filter_append _ _
theorem pt_done : ∀ (l m : List Ent) (s : ByteArray) (i : Nat), l.all (fun e => Op.bytesLess e.1.toList s.toList) = false → pt (l ++ m) s i = pt l s i ++ drp m s
  | [], m, s, i, h => by simp at h
  | e :: r, m, s, i, h => by
    rw [List.all_cons] at h
    rw [List.cons_append, pt, pt]
    by_cases q : Op.bytesLess e.1.toList s.toList = true
    · rw [if_pos q, if_pos q, pt_done r m s i (by simpa [q] using h)]
      rfl
    · rw [if_neg q, if_neg q, show e :: (r ++ m) = (e :: r) ++ m from rfl, drp_app]
      rfl
theorem pt_cut (l : List Ent) (e : Ent) (s : ByteArray) (i : Nat) (h : l.all (fun e => Op.bytesLess e.1.toList s.toList) = true) (q : Op.bytesLess e.1.toList s.toList = false) : pt (l ++ [e]) s i = l ++ (s, i) :: drp [e] s := by
  induction l with
  | nil => rw [List.nil_append, pt, if_neg (by simp [q])]; rfl
  | cons x r ih =>
    rw [List.all_cons, Bool.and_eq_true] at h
    rw [List.cons_append, pt, if_pos h.1, ih h.2]
    rfl
/-- Where the loop of a name more stands. -/
def PutR (l : List Ent) (s : ByteArray) (i k : Nat) (D : Bool) (O : List Ent) : Prop :=
  (D = false ∧ (l.take k).all (fun e => Op.bytesLess e.1.toList s.toList) = true ∧ O = l.take k) ∨ (D = true ∧ (l.take k).all (fun e => Op.bytesLess e.1.toList s.toList) = false ∧ O = pt (l.take k) s i)
theorem drp_one (e : Ent) (s : ByteArray) : drp [e] s = if (e.1.toList == s.toList) = true then [] else [e] := by
  simp only [drp, List.filter_cons, List.filter_nil]
  by_cases h : (e.1.toList == s.toList) = true
  · simp [h]
  · have h' : (e.1.toList == s.toList) = false := by simpa using h
    simp [h']
theorem PutR.start (l : List Ent) (s : ByteArray) (i : Nat) : PutR l s i 0 false [] := .inl ⟨rfl, rfl, rfl⟩
theorem PutR.less {l : List Ent} {s : ByteArray} {i k : Nat} {O : List Ent} {e : Ent} (h : PutR l s i k false O) (hk : l[k]? = some e) (q : Op.bytesLess e.1.toList s.toList = true) : PutR l s i (k + 1) false (O ++ [e]) := by
  rcases h with ⟨_, h2, h3⟩ | ⟨h1, _⟩
  · refine .inl ⟨rfl, ?_, ?_⟩
    · rw [take_snoc hk, List.all_append, h2]
      simp [q]
    · rw [take_snoc hk, h3]
  · cases h1
theorem PutR.cut {l : List Ent} {s : ByteArray} {i k : Nat} {O : List Ent} {e : Ent} (h : PutR l s i k false O) (hk : l[k]? = some e) (q : Op.bytesLess e.1.toList s.toList = false) : PutR l s i (k + 1) true (O ++ [(s, i)] ++ drp [e] s) := by
  rcases h with ⟨_, h2, h3⟩ | ⟨h1, _⟩
  · refine .inr ⟨rfl, ?_, ?_⟩
    · rw [take_snoc hk, List.all_append, h2]
      simp [q]
    · rw [take_snoc hk, h3, pt_cut _ _ _ _ h2 q]
      simp
  · cases h1
theorem PutR.done {l : List Ent} {s : ByteArray} {i k : Nat} {O : List Ent} {e : Ent} (h : PutR l s i k true O) (hk : l[k]? = some e) : PutR l s i (k + 1) true (O ++ drp [e] s) := by
  rcases h with ⟨h1, _⟩ | ⟨_, h2, h3⟩
  · cases h1
  · refine .inr ⟨rfl, ?_, ?_⟩
    · rw [take_snoc hk, List.all_append, h2]
      rfl
    · rw [take_snoc hk, h3, pt_done _ _ _ _ h2]
theorem PutR.len {l : List Ent} {s : ByteArray} {i k : Nat} {O : List Ent} {D : Bool} (h : PutR l s i k D O) : O.length ≤ k + 1 := by
  have ht : (l.take k).length ≤ k := by rw [List.length_take]; omega
  rcases h with ⟨_, _, h3⟩ | ⟨_, h2, h3⟩
  · rw [h3]; omega
  · rw [h3]
    have := pt_le (l.take k) s i
    omega

set_option maxHeartbeats 1000000 in
set_option maxRecDepth 100000 in
theorem rput_any (p : Nat) (room : Int) (lv wv : Value) (c : Cn) (F : Nat → Prop) (loc : Nat → Nat) (l : List Ent) (s : ByteArray) (f : Nat) (w : World) (hd : Dk w p room lv wv c) (hl : DirR w F loc lv l) (hn : l.length ≤ 2 ^ 40) :
    Calls Tryz.prog 71 #[ptr p, .string s, ptr (loc f)] w fun e w' => e = .returned (.tuple #[]) ∧ ∃ v, Dk w' p room v wv c ∧ DRow w.heap.size w' loc v (pt l s f) ∧ w.grownBy w' (some p) := by
  obtain ⟨ao, cap, rfl, hlc, hcm, hnil, hcell⟩ := hl.cells
  have c1 := cell_of hd 1
  have f1 := frozen_of hd 1
  simp only [List.getElem?_toArray, List.getElem?_cons_succ, List.getElem?_cons_zero] at c1
  obtain ⟨n, hnn⟩ : ∃ n, n = l.length := ⟨_, rfl⟩
  have HC : Hid (∀ k, k < l.length → ∃ g a i, ao = some ⟨g, 0, none⟩ ∧ l[k]? = some (a, i) ∧ l.drop k = (a, i) :: l.drop (k + 1) ∧ w.cell? ⟨g, k * 2, none⟩ = some (.string a) ∧ w.cell? ⟨g, k * 2 + 1, none⟩ = some (ptr (loc i))) := hcell
  have HN : Hid (n = l.length ∧ n ≤ 2 ^ 40 ∧ p < w.heap.size) := ⟨hnn, by omega, hd.ty.lt⟩
  have HD : Hid (Dk w p room (.slice ao l.length cap) wv c) := hd
  have hn' : n ≤ 2 ^ 40 := by omega
  rw [← hnn] at c1
  clear hd hl hlc hcm hnil hcell hn hnn
  unfold ptr at *
  go_enter Tryz.func71, Tryz.ntmps71
  go_wp2_with fail
  go_loopg [6, 7, 15] n (fun g v d i wr => ∃ (k : Nat) (D : Bool) (O : List Ent), k + g = n ∧ i = .int .i64 (k : Int) ∧ d = .bool D ∧ Below w.heap.size w wr ∧ Hid (DRow w.heap.size wr loc v O) ∧ Hid (PutR l s f k D O))
  case atStart => exact ⟨0, false, [], by omega, rfl, rfl, Below.refl _ _, DRow.nil _ _ _, PutR.start _ _ _⟩
  case round =>
    obtain ⟨k, D, O, hk, rfl, rfl, hw, HT, HP⟩ := hrel
    obtain ⟨oa, on, oc, rfl⟩ := DRow.slice HT.out
    by_cases h : k < n
    · have h' : (k : Int) < (n : Int) := by omega
      obtain ⟨g, a, i, rfl, xk, xd, x1, x2⟩ := HC.out k (by have := HN.out; omega)
      have y1 := cell_later hw x1
      have y2 := cell_later hw x2
      obtain ⟨GK, HG⟩ : ∃ g, Hid (g < gk ∧ k + 1 + g = n) := ⟨gk - 1, by omega, by omega⟩
      have HW : Hid (Below w.heap.size w wr) := hw
      have hlen := HP.out.len
      have HL : Hid (O.length + 2 ≤ 2 ^ 41) := by show _ + 2 ≤ _; omega
      have HK : Hid (l[k]? = some (a, i)) := xk
      clear hk x1 x2 hw xd xk hlen
      by_cases q : (a.toList == s.toList) = true
      · have b : Op.bytesLess a.toList s.toList = false := by
          cases e : Op.bytesLess a.toList s.toList with
          | false => rfl
          | true => rw [less_ne e] at q; cases q
        have e0 : drp [(a, i)] s = [] := by rw [drp_one, if_pos q]
        cases D with
        | false =>
          have hp := HP.out.cut HK.out b
          rw [e0, List.append_nil] at hp
          have HP2 : Hid (PutR l s f (k + 1) true (O ++ [(s, f)])) := hp
          clear hp e0
          go_wp2_with (at_builtin; refine wpList_ent1 rfl (.tmp 27) (.tmp 31) rfl w.heap.size loc _ O s f rfl (World.ownsRow.alloc HT.out _) _ rfl (by simp) (by have := HL.out; omega) (by have := HW.out.size; simp; omega) ?_; intro v1 w1 hr1 hb1 hg1; obtain ⟨z1, z2⟩ := ent_after HT.out hg1)
          go_roundg GK
          case measure => exact HG.out.1
          case rel => exact ⟨k + 1, true, _, HG.out.2, by go_num, rfl, (HW.out.alloc HW.out.size _).trans hb1, hr1, HP2⟩
        | true =>
          have hp := HP.out.done HK.out
          rw [e0, List.append_nil] at hp
          have HP2 : Hid (PutR l s f (k + 1) true O) := hp
          clear hp e0
          go_wp2_with fail
          go_roundg GK
          case measure => exact HG.out.1
          case rel => exact ⟨k + 1, true, _, HG.out.2, by go_num, rfl, HW.out.alloc HW.out.size _, World.ownsRow.alloc HT.out _, HP2⟩
      · have q' : (a.toList == s.toList) = false := by simpa using q
        have e0 : drp [(a, i)] s = [(a, i)] := by rw [drp_one, if_neg q]
        clear q
        cases D with
        | false =>
          by_cases b : Op.bytesLess a.toList s.toList = true
          · have HP2 : Hid (PutR l s f (k + 1) false (O ++ [(a, i)])) := HP.out.less HK.out b
            clear e0
            go_wp2_with (at_builtin; refine wpList_ent1 rfl (.tmp 37) (.tmp 39) rfl w.heap.size loc _ O a i rfl (World.ownsRow.alloc HT.out _) _ rfl (by simp) (by have := HL.out; omega) (by have := HW.out.size; simp; omega) ?_; intro v1 w1 hr1 hb1 _)
            go_roundg GK
            case measure => exact HG.out.1
            case rel => exact ⟨k + 1, false, _, HG.out.2, by go_num, rfl, (HW.out.alloc HW.out.size _).trans hb1, hr1, HP2⟩
          · have b' : Op.bytesLess a.toList s.toList = false := by simpa using b
            have hp := HP.out.cut HK.out b'
            rw [e0] at hp
            have HP2 : Hid (PutR l s f (k + 1) true (O ++ [(s, f)] ++ [(a, i)])) := hp
            clear hp e0 b
            go_wp2_with (first | (at_builtin; refine wpList_ent1 rfl (.tmp 27) (.tmp 31) rfl w.heap.size loc _ O s f rfl (World.ownsRow.alloc HT.out _) _ rfl (by simp) (by have := HL.out; omega) (by have := HW.out.size; simp; omega) ?_; intro v1 w1 hr1 hb1 hg1; obtain ⟨z1, z2⟩ := ent_after HT.out hg1) | (at_builtin; refine wpList_ent1 rfl (.tmp 37) (.tmp 39) rfl w.heap.size loc _ (O ++ [(s, f)]) a i rfl hr1 _ rfl (by simp) (by have := HL.out; simp; omega) (by have := HW.out.size; have := hb1.size; simp at this; omega) ?_; intro v2 w2 hr2 hb2 hg2))
            go_roundg GK
            case measure => exact HG.out.1
            case rel => exact ⟨k + 1, true, _, HG.out.2, by go_num, rfl, ((HW.out.alloc HW.out.size _).trans hb1).trans hb2, hr2, HP2⟩
        | true =>
          have hp := HP.out.done HK.out
          rw [e0] at hp
          have HP2 : Hid (PutR l s f (k + 1) true (O ++ [(a, i)])) := hp
          clear hp e0
          go_wp2_with (at_builtin; refine wpList_ent1 rfl (.tmp 37) (.tmp 39) rfl w.heap.size loc _ O a i rfl (World.ownsRow.alloc HT.out _) _ rfl (by simp) (by have := HL.out; omega) (by have := HW.out.size; simp; omega) ?_; intro v1 w1 hr1 hb1 _)
          go_roundg GK
          case measure => exact HG.out.1
          case rel => exact ⟨k + 1, true, _, HG.out.2, by go_num, rfl, (HW.out.alloc HW.out.size _).trans hb1, hr1, HP2⟩
    · have h' : (n : Int) ≤ (k : Int) := by omega
      have hp := HP.out
      have f2 := (hw.frozen (p := ⟨p, 1, none⟩) HN.out.2.2).trans f1
      have c2 := cell_later hw c1
      have htk : l.take k = l := List.take_of_length_le (by have := HN.out; omega)
      have HW : Hid (Below w.heap.size w wr) := hw
      rcases hp with ⟨rfl, p2, p3⟩ | ⟨rfl, p2, p3⟩
      · rw [htk] at p2 p3
        have HR : Hid (pt l s f = O ++ [(s, f)]) := by show _ = _; rw [pt_less _ _ _ p2, p3]
        have HL : Hid (O.length + 1 ≤ 2 ^ 41) := by show _ + 1 ≤ _; rw [p3]; have := HN.out; omega
        clear p2 p3 htk HP
        go_wp2_with (at_builtin; refine wpList_ent1 rfl (.tmp 44) (.tmp 48) rfl w.heap.size loc _ O s f rfl HT.out _ rfl (by simp) HL.out (by have := HW.out.size; simp; omega) ?_; intro v1 w1 hr1 hb1 _; obtain ⟨o1, o2, o3, rfl⟩ := DRow.slice hr1; have f3 := (hb1.frozen (p := ⟨p, 1, none⟩) HN.out.2.2).trans f2; have c3 := cell_later (HW.out.trans hb1) c1)
        go_end0
        exact ⟨rfl, _, (HD.out.later (HW.out.trans hb1)).set1 _, by show DRow _ _ _ _ _; rw [HR.out]; exact ownsRow_setCell_below hr1 HN.out.2.2 _, grown_trans (below_grown (HW.out.trans hb1) _) (grown_set _ _ _ _)⟩
      · rw [htk] at p3
        subst p3
        clear p2 htk
        go_wp2_with fail
        go_end0
        exact ⟨rfl, _, (HD.out.later hw).set1 _, ownsRow_setCell_below HT.out HN.out.2.2 _, grown_trans (below_grown hw _) (grown_set _ _ _ _)⟩
end Go.Proofs.YtligofmcmjblpaaGreat
