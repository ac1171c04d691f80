import Derived.Test.YtligofmcmjblpaaPk15
/- A disk that there isn't. -/
namespace Go.Proofs.Ytligofmcmjblpaa
open Go.RowKit
set_option linter.unusedVariables false
set_option linter.unusedSimpArgs false

/-- What is asked of a program's methods where there is no disk. -/
structure PDN : Prop where
  create : ∀ (s : ByteArray) (w : World), Calls Try.prog 8 #[.pointer none, .string s] w fun e w' => e = .returned (.int .i64 1) ∧ Below w.heap.size w w'
  append : ∀ (s : ByteArray) (ao : Option Addr) (l c : Nat) (w : World), Calls Try.prog 10 #[.pointer none, .string s, .slice ao l c] w fun e w' => e = .returned (.int .i64 1) ∧ Below w.heap.size w w'
  sync : ∀ (s : ByteArray) (w : World), Calls Try.prog 22 #[.pointer none, .string s] w fun e w' => e = .returned (.int .i64 1) ∧ Below w.heap.size w w'
  rename : ∀ (s t : ByteArray) (w : World), Calls Try.prog 40 #[.pointer none, .string s, .string t] w fun e w' => e = .returned (.int .i64 1) ∧ Below w.heap.size w w'
  remove : ∀ (s : ByteArray) (w : World), Calls Try.prog 41 #[.pointer none, .string s] w fun e w' => e = .returned (.int .i64 1) ∧ Below w.heap.size w w'
  syncDir : ∀ (w : World), Calls Try.prog 23 #[.pointer none] w fun e w' => e = .returned (.int .i64 1) ∧ Below w.heap.size w w'
  read : ∀ (s : ByteArray) (w : World), Calls Try.prog 15 #[.pointer none, .string s] w fun e w' => ∃ ao c, e = .returned (.tuple #[.slice ao 0 c, .int .i64 1]) ∧ Below w.heap.size w w'
  list : ∀ (w : World), Calls Try.prog 17 #[.pointer none] w fun e w' => ∃ ao c, e = .returned (.slice ao 0 c) ∧ Below w.heap.size w w'
  used : ∀ (w : World), Calls Try.prog 12 #[.pointer none] w fun e w' => e = .returned (.int .i64 0) ∧ Below w.heap.size w w'
  calls : ∀ (w : World), Calls Try.prog 18 #[.pointer none] w fun e w' => e = .returned (.int .i64 0) ∧ Below w.heap.size w w'
  down : ∀ (w : World), Calls Try.prog 19 #[.pointer none] w fun e w' => e = .returned (.bool false) ∧ Below w.heap.size w w'
  spoil : ∀ (s : ByteArray) (w : World), Calls Try.prog 20 #[.pointer none, .string s, .int .i64 0, .int .u8 0] w fun e w' => e = .returned (.bool false) ∧ Below w.heap.size w w'
  copy : ∀ (w : World), Calls Try.prog 21 #[.pointer none] w fun e w' => e = .returned (.pointer none) ∧ Below w.heap.size w w'

set_option maxHeartbeats 2000000 in
set_option maxRecDepth 100000 in
theorem do_nil (K : PDN) (c : CV) (w : World) (h0 : 0 ≤ c.op ∧ c.op ≤ 5) : Calls Try.prog 16 #[.pointer none, c.val] w fun e w' => e = .returned (.int .i64 1) ∧ Below w.heap.size w w' := by
  have hb : Below w.heap.size w (w.alloc (.cells c.cells 36)) := (Below.refl _ _).alloc (Nat.le_refl _) _
  have HE : Hid (∀ {w' : World}, Below (w.alloc (.cells c.cells 36)).heap.size (w.alloc (.cells c.cells 36)) w' → Below w.heap.size w w') := fun x => hb.trans (x.mono hb.size)
  obtain ⟨op, name, other, dao, dlen, dcap, dX, n, k, pos, pao, plen, pcap, P⟩ := c
  unfold CV.val CV.cells at *
  simp only at *
  have : op = 0 ∨ op = 1 ∨ op = 2 ∨ op = 3 ∨ op = 4 ∨ op = 5 := by omega
  clear hb h0
  rcases this with rfl | rfl | rfl | rfl | rfl | rfl
  · have k1 := K.create name
    go_enter Try.func16, Try.ntmps16
    go_wp2_with (go_at_call 8; refine (k1 _).mono ?_; rintro e w1 ⟨rfl, n1⟩)
    go_ret
    exact ⟨rfl, HE.out n1⟩
  · have k1 := K.append name dao dlen dcap
    go_enter Try.func16, Try.ntmps16
    go_wp2_with (go_at_call 10; refine (k1 _).mono ?_; rintro e w1 ⟨rfl, n1⟩)
    go_ret
    exact ⟨rfl, HE.out n1⟩
  · have k1 := K.sync name
    go_enter Try.func16, Try.ntmps16
    go_wp2_with (go_at_call 22; refine (k1 _).mono ?_; rintro e w1 ⟨rfl, n1⟩)
    go_ret
    exact ⟨rfl, HE.out n1⟩
  · have k1 := K.rename name other
    go_enter Try.func16, Try.ntmps16
    go_wp2_with (go_at_call 40; refine (k1 _).mono ?_; rintro e w1 ⟨rfl, n1⟩)
    go_ret
    exact ⟨rfl, HE.out n1⟩
  · have k1 := K.remove name
    go_enter Try.func16, Try.ntmps16
    go_wp2_with (go_at_call 41; refine (k1 _).mono ?_; rintro e w1 ⟨rfl, n1⟩)
    go_ret
    exact ⟨rfl, HE.out n1⟩
  · have k1 := K.syncDir
    go_enter Try.func16, Try.ntmps16
    go_wp2_with (go_at_call 23; refine (k1 _).mono ?_; rintro e w1 ⟨rfl, n1⟩)
    go_ret
    exact ⟨rfl, HE.out n1⟩

set_option maxHeartbeats 2000000 in
set_option maxRecDepth 100000 in
theorem nil_any (D : PD) (K : PDN) (c : CV) (w : World) : Calls Try.prog 4 #[c.val] w fun e w' => e = .returned (.bool true) ∧ Below w.heap.size w w' := by
  have hb : Below w.heap.size w (w.alloc (.cells c.cells 36)) := (Below.refl _ _).alloc (Nat.le_refl _) _
  have HB := Hid.intro hb
  have HA : Hid (∀ w1, Calls Try.prog 14 #[] w1 fun e w' => e = .returned (.bool true) ∧ Below w1.heap.size w1 w') := fun w1 => awake_any D w1
  have HD : Hid ((0 ≤ c.op ∧ c.op ≤ 5) → ∀ w1, Calls Try.prog 16 #[.pointer none, c.val] w1 fun e w' => e = .returned (.int .i64 1) ∧ Below w1.heap.size w1 w') := fun h w1 => do_nil K c w1 h
  have hcell := fun j => cell_of (heap_alloc_new w (.cells c.cells 36)) j
  obtain ⟨op, name, other, dao, dlen, dcap, dX, n, k, pos, pao, plen, pcap, P⟩ := c
  unfold CV.val CV.cells at *
  simp only at *
  have HW : Hid (∀ w1, Below w.heap.size w w1 → True) := fun _ _ => trivial
  obtain ⟨wb, hwb⟩ : ∃ wb, wb = w.alloc (.cells #[.int .i64 op, .string name, .string other, .slice dao dlen dcap, .int .i64 n, .int .i64 k, .int .i64 pos, .slice pao plen pcap] 36) := ⟨_, rfl⟩
  have HC : Hid (∀ wx, Below wb.heap.size wb wx → wx.cell? ⟨w.heap.size, 0, none⟩ = some (.int .i64 op) ∧ wx.cell? ⟨w.heap.size, 1, none⟩ = some (.string name) ∧ wx.cell? ⟨w.heap.size, 2, none⟩ = some (.string other) ∧ wx.cell? ⟨w.heap.size, 3, none⟩ = some (.slice dao dlen dcap) ∧ wx.cell? ⟨w.heap.size, 4, none⟩ = some (.int .i64 n) ∧ wx.cell? ⟨w.heap.size, 5, none⟩ = some (.int .i64 k) ∧ wx.cell? ⟨w.heap.size, 6, none⟩ = some (.int .i64 pos) ∧ wx.cell? ⟨w.heap.size, 7, none⟩ = some (.slice pao plen pcap)) := fun wx hx => by
    subst hwb
    exact ⟨cell_later hx (hcell 0), cell_later hx (hcell 1), cell_later hx (hcell 2), cell_later hx (hcell 3), cell_later hx (hcell 4), cell_later hx (hcell 5), cell_later hx (hcell 6), cell_later hx (hcell 7)⟩
  have HBW : Hid (Below w.heap.size w wb) := by show Below _ _ _; rw [hwb]; exact hb
  have kR := K.read name
  have kL := K.list
  have kU := K.used
  have kC := K.calls
  have kW := K.down
  have kS := K.spoil name
  have kY := K.copy
  clear hb hcell HB
  by_cases q : 0 ≤ op ∧ op ≤ 5
  · have q1 : (0 : Int) ≤ op := q.1
    have q2 : op ≤ 5 := q.2
    have kD := HD.out q
    clear q HD
    go_enter Try.func4, Try.ntmps4
    go_wp2_with (first | (go_at_call 15; rw [← hwb]; refine (kR _).mono ?_; rintro e w1 ⟨r1, r2, rfl, b1⟩; have B1 : Below w.heap.size w w1 := HBW.out.trans (b1.mono HBW.out.size); obtain ⟨z0, z1, z2, z3, z4, z5, z6, z7⟩ := HC.out _ b1) | (go_at_call 16; refine (kD _).mono ?_; rintro e w2 ⟨rfl, b2⟩; have B2 : Below w.heap.size w w2 := B1.trans (b2.mono B1.size); have X2 : Below wb.heap.size wb w2 := b1.trans (b2.mono b1.size)) | (go_at_call 17; refine (kL _).mono ?_; rintro e w3 ⟨l1, l2, rfl, b3⟩) | (go_at_call 12; refine (kU _).mono ?_; rintro e w4 ⟨rfl, b4⟩) | (go_at_call 18; refine (kC _).mono ?_; rintro e w5 ⟨rfl, b5⟩) | (go_at_call 19; refine (kW _).mono ?_; rintro e w6 ⟨rfl, b6⟩; have B6 : Below w.heap.size w w6 := B2.trans ((b3.trans ((b4.trans ((b5.trans (b6.mono b5.size)).mono b4.size)).mono b3.size)).mono B2.size); have X6 : Below wb.heap.size wb w6 := X2.trans ((b3.trans ((b4.trans ((b5.trans (b6.mono b5.size)).mono b4.size)).mono b3.size)).mono X2.size); obtain ⟨q0, q1, q2, q3, q4, q5, q6, q7⟩ := HC.out _ X6) | (go_at_call 20; refine (kS _).mono ?_; rintro e w7 ⟨rfl, b7⟩) | (go_at_call 21; refine (kY _).mono ?_; rintro e w8 ⟨rfl, b8⟩) | (go_at_call 14; refine (HA.out _).mono ?_; rintro e w9 ⟨rfl, b9⟩))
    go_ret
    have e9 : Below w6.heap.size w6 w9 := b7.trans ((b8.trans (b9.mono b8.size)).mono b7.size)
    exact ⟨rfl, B6.trans (e9.mono B6.size)⟩
  · clear HD
    by_cases q1 : (0 : Int) ≤ op
    · have q2 : decide (op ≤ 5) = false := decide_eq_false (by omega)
      clear q
      go_enter Try.func4, Try.ntmps4
      go_wp2_with (first | (go_at_call 15; rw [← hwb]; refine (kR _).mono ?_; rintro e w1 ⟨r1, r2, rfl, b1⟩; have B1 : Below w.heap.size w w1 := HBW.out.trans (b1.mono HBW.out.size); obtain ⟨z0, z1, z2, z3, z4, z5, z6, z7⟩ := HC.out _ b1; have B2 := B1; have X2 : Below wb.heap.size wb w1 := b1) | (go_at_call 17; refine (kL _).mono ?_; rintro e w3 ⟨l1, l2, rfl, b3⟩) | (go_at_call 12; refine (kU _).mono ?_; rintro e w4 ⟨rfl, b4⟩) | (go_at_call 18; refine (kC _).mono ?_; rintro e w5 ⟨rfl, b5⟩) | (go_at_call 19; refine (kW _).mono ?_; rintro e w6 ⟨rfl, b6⟩; have B6 : Below w.heap.size w w6 := B2.trans ((b3.trans ((b4.trans ((b5.trans (b6.mono b5.size)).mono b4.size)).mono b3.size)).mono B2.size); have X6 : Below wb.heap.size wb w6 := X2.trans ((b3.trans ((b4.trans ((b5.trans (b6.mono b5.size)).mono b4.size)).mono b3.size)).mono X2.size); obtain ⟨q0, q1, q2, q3, q4, q5, q6, q7⟩ := HC.out _ X6) | (go_at_call 20; refine (kS _).mono ?_; rintro e w7 ⟨rfl, b7⟩) | (go_at_call 21; refine (kY _).mono ?_; rintro e w8 ⟨rfl, b8⟩) | (go_at_call 14; refine (HA.out _).mono ?_; rintro e w9 ⟨rfl, b9⟩))
      go_ret
      have e9 : Below w6.heap.size w6 w9 := b7.trans ((b8.trans (b9.mono b8.size)).mono b7.size)
      exact ⟨rfl, B6.trans (e9.mono B6.size)⟩
    · have q2 : decide ((0 : Int) ≤ op) = false := decide_eq_false q1
      clear q q1
      go_enter Try.func4, Try.ntmps4
      go_wp2_with (first | (go_at_call 15; rw [← hwb]; refine (kR _).mono ?_; rintro e w1 ⟨r1, r2, rfl, b1⟩; have B1 : Below w.heap.size w w1 := HBW.out.trans (b1.mono HBW.out.size); obtain ⟨z0, z1, z2, z3, z4, z5, z6, z7⟩ := HC.out _ b1; have B2 := B1; have X2 : Below wb.heap.size wb w1 := b1) | (go_at_call 17; refine (kL _).mono ?_; rintro e w3 ⟨l1, l2, rfl, b3⟩) | (go_at_call 12; refine (kU _).mono ?_; rintro e w4 ⟨rfl, b4⟩) | (go_at_call 18; refine (kC _).mono ?_; rintro e w5 ⟨rfl, b5⟩) | (go_at_call 19; refine (kW _).mono ?_; rintro e w6 ⟨rfl, b6⟩; have B6 : Below w.heap.size w w6 := B2.trans ((b3.trans ((b4.trans ((b5.trans (b6.mono b5.size)).mono b4.size)).mono b3.size)).mono B2.size); have X6 : Below wb.heap.size wb w6 := X2.trans ((b3.trans ((b4.trans ((b5.trans (b6.mono b5.size)).mono b4.size)).mono b3.size)).mono X2.size); obtain ⟨q0, q1, q2, q3, q4, q5, q6, q7⟩ := HC.out _ X6) | (go_at_call 20; refine (kS _).mono ?_; rintro e w7 ⟨rfl, b7⟩) | (go_at_call 21; refine (kY _).mono ?_; rintro e w8 ⟨rfl, b8⟩) | (go_at_call 14; refine (HA.out _).mono ?_; rintro e w9 ⟨rfl, b9⟩))
      go_ret
      have e9 : Below w6.heap.size w6 w9 := b7.trans ((b8.trans (b9.mono b8.size)).mono b7.size)
      exact ⟨rfl, B6.trans (e9.mono B6.size)⟩
end Go.Proofs.Ytligofmcmjblpaa
