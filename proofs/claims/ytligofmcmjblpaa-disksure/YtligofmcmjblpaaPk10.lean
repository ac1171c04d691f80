import Derived.Test.YtligofmcmjblpaaPk08
import Derived.Test.YtligofmcmjblpaaPk09
/- The document's own disk: Read, ReadAt, List, New. -/
namespace Go.Proofs.Ytligofmcmjblpaa
open Go.RowKit
set_option linter.unusedVariables false
set_option linter.unusedSimpArgs false

theorem read_cases (σ : DS) (s : ByteArray) : ((σ.read s).2 = 10 ∧ (σ.read s).1 = none) ∨ ((σ.read s).2 = 7 ∧ (σ.read s).1 = none) ∨ (σ.read s).2 = 0 := by
  unfold DS.read
  split
  · exact .inl ⟨rfl, rfl⟩
  · split
    · exact .inr (.inl ⟨rfl, rfl⟩)
    · exact .inr (.inr rfl)
theorem read_ok {σ : DS} (hi : Inv σ) (s : ByteArray) : Okb ((σ.read s).1.getD []) ∧ ((σ.read s).1.getD []).length ≤ 4194304 := by
  unfold DS.read
  split
  · exact ⟨fun x hx => by simp at hx, by simp⟩
  · split
    · exact ⟨fun x hx => by simp at hx, by simp⟩
    · next i _ => exact ⟨(hi.fl i).2.2, (hi.fl i).1⟩
/-- A piece of a row that is read. -/
theorem bs_piece (xs : List Int) (h : Okb xs) (a n : Nat) (hl : a + n ≤ xs.length) : bs (fun k => xof xs (a + k)) n = (xs.drop a).take n := by
  apply List.ext_getElem
  · simp [bs_length]; omega
  · intro i h1 h2
    simp [bs_length] at h1
    have hx : a + i < xs.length := by omega
    have := h xs[a + i] (List.getElem_mem hx)
    simp [bs, xof, hx]
    omega
theorem byt_piece {w : World} {ao : Option Addr} {len : Nat} {X : Nat → Nat} (h : Byt w ao len X) (a n : Nat) (hl : a + n ≤ len) {b off : Nat} (he : ao = some ⟨b, off, none⟩) : Byt w (some ⟨b, off + a, none⟩) n (fun k => X (a + k)) := fun k hk => by
  obtain ⟨h1, b', off', e, hc⟩ := h (a + k) (by omega)
  rw [he] at e
  simp only [Option.some.injEq, Addr.mk.injEq, and_true] at e
  obtain ⟨rfl, rfl⟩ := e
  exact ⟨h1, b, off + a, rfl, by rw [Nat.add_assoc]; exact hc⟩

theorem _root_.Go.Proofs.Try.info9 : (Try.prog.info? 9).map (fun i => (i.zero, i.size, i.bytes)) = some (some (.string ⟨#[]⟩), 1, 16) := by kernel_rfl
theorem RowS.nil (B : Nat) (w : World) : RowS B w (.slice none 0 0) [] := World.ownsRow_nil w B 9 1
theorem RowS.slice {B : Nat} {w : World} {v : Value} {xs : List ByteArray} (h : RowS B w v xs) : ∃ ao n c, v = .slice ao n c := by
  rcases h.2 with ⟨rfl, _⟩ | ⟨g, cap, cur, rfl, _⟩
  · exact ⟨_, _, _, rfl⟩
  · exact ⟨_, _, _, rfl⟩
/-- One string appended. -/
theorem wpList_appS {w : World} {ops : Array Oper} {rest : List Oper} {o : Oper} {a : Act} {Q : Exit → Act → World → Prop} {s x : Operand} {B : Nat} {v : Value} {xs : List ByteArray} {y : ByteArray} (hgd : o.guard = none)
    (ho : o.op = .call { callee := .builtin .append, args := #[s, x], argTypes := #[27, 27] }) (hs : a.eval s = v) (g : Nat) (hx : a.eval x = .slice (some ⟨g, 0, none⟩) 1 1) (hg : g = w.heap.size) (hrow : RowS B w v xs) (hb : xs.length + 1 ≤ 1099511627776) (hB : B ≤ w.heap.size)
    (h : ∀ v' w', RowS B w' v' (xs ++ [y]) → Below B w w' → wpList Try.prog ops Q rest (a.put o.dst v') w') : wpList Try.prog ops Q (o :: rest) a (w.alloc (.cells #[.string y] 9)) := by
  subst hg
  obtain ⟨i, hi, hz, hsize, hbytes⟩ := info_parts Try.info9
  have hrow' : RowS B (w.alloc (.cells #[.string y] 9)) v xs := World.ownsRow.alloc hrow _
  have hB' : B ≤ (w.alloc (.cells #[.string y] 9)).heap.size := by simp; omega
  refine wpList_append_own (P := Try.prog) (w.alloc (.cells #[.string y] 9)) hgd s x 27 ho B 9 i _ 1 16 Try.underlying27 hi hz hsize hbytes rfl (by decide) v xs.length _ hs hrow' ⟨w.heap.size, 0, none⟩ 1 1 [.string y] hx rfl ?_ ?_ (by simp only [maxLen]; omega) (by omega) hB' fun v' w' h1 h2 h3 => h v' w' ?_ ?_
  · intro j u hu
    have hj : j = 0 := by
      cases j with
      | zero => rfl
      | succ j => simp at hu
    subst hj
    simp at hu
    rw [← hu]
    simp [Addr.add]
  · intro u hu
    simp at hu
    subst hu
    rfl
  · unfold RowS
    rw [List.map_append, List.length_append]
    exact h1
  · exact ((Below.refl B w).alloc hB _).trans (Below.grown (Below.refl _ _) h2 hB' (fun k hk => (World.ownsRow.lt hrow' k hk).1))

end Go.Proofs.Ytligofmcmjblpaa

/- The document's own disk: New, Spoil. -/
namespace Go.Proofs.Ytligofmcmjblpaa
open Go.RowKit
set_option linter.unusedVariables false
set_option linter.unusedSimpArgs false

set_option maxHeartbeats 1000000 in
theorem rnew_any (room : Int) (w : World) : Calls Try.prog 7 #[.int .i64 room] w fun e w' => ∃ p F A loc lv wv, e = .returned (ptr p) ∧ RefAt w' p (DS.new room) F A loc lv wv ∧ (∀ k, F k → w.heap.size ≤ k) ∧ Below w.heap.size w w' := by
  have HE : Hid (∀ R : Int, max 0 room = R → ∃ p F A loc lv wv, ptr (w.heap.size + 1) = ptr p ∧ RefAt ((w.alloc (.cells #[.slice none 0 0] 57)).alloc (.cells #[.int .i64 R, .slice none 0 0, .slice (some ⟨w.heap.size, 0, none⟩) 1 1, .int .i64 0, .int .i64 0, .int .i64 0, .int .i64 0, .bool false] 59)) p (DS.new room) F A loc lv wv ∧ (∀ k, F k → w.heap.size ≤ k) ∧ Below w.heap.size w ((w.alloc (.cells #[.slice none 0 0] 57)).alloc (.cells #[.int .i64 R, .slice none 0 0, .slice (some ⟨w.heap.size, 0, none⟩) 1 1, .int .i64 0, .int .i64 0, .int .i64 0, .int .i64 0, .bool false] 59))) := by
    intro R hR
    have hb : Below w.heap.size w (w.alloc (.cells #[.slice none 0 0] 57)) := (Below.refl _ _).alloc (Nat.le_refl _) _
    refine ⟨w.heap.size + 1, fun k => k = w.heap.size ∨ k = w.heap.size + 1, fun _ => False, fun _ => 0, .slice none 0 0, .slice (some ⟨w.heap.size, 0, none⟩) 1 1, rfl, ⟨.inr rfl, ?_, ⟨World.ownsRow_nil _ _ _ _, fun g e => by cases e⟩, ⟨[.slice none 0 0], ⟨rfl, .inr ⟨w.heap.size, 1, #[.slice none 0 0], rfl, Nat.zero_le _, ?_, Nat.le_refl _, by decide, rfl, rfl⟩⟩, fun g e => ?_, rfl, fun k x l hx hl => ?_⟩, fun i hi => hi.elim, fun i j hi => hi.elim, fun k hk => ?_, fun i hi => ?_, fun i hi => hi.elim⟩, fun k hk => ?_, hb.alloc hb.size _⟩
    · have := heap_alloc_new (w.alloc (.cells #[.slice none 0 0] 57)) (.cells #[.int .i64 R, .slice none 0 0, .slice (some ⟨w.heap.size, 0, none⟩) 1 1, .int .i64 0, .int .i64 0, .int .i64 0, .int .i64 0, .bool false] 59)
      unfold Dk
      rw [show (w.alloc (.cells #[.slice none 0 0] 57)).heap.size = w.heap.size + 1 by simp] at this
      rw [this, ← hR]
      rfl
    · rw [Below.heap_alloc _ _ _ (by simp), heap_alloc_new]
    · simp only [Value.ownBlock, Option.some.injEq] at e
      exact .inl e.symm
    · have hk : k = 0 := by have := (List.getElem?_eq_some_iff.1 hx).1; simp at this; exact this
      subst hk
      simp [DS.new] at hx hl
      subst hx
      subst hl
      exact ⟨World.ownsRow_nil _ _ _ _, fun g e => by cases e⟩
    · simp
      omega
    · rcases hi with ⟨s, hs⟩ | ⟨l, hl, s, hs⟩
      · simp [DS.new] at hs
      · simp [DS.new] at hl
        subst hl
        simp at hs
    · omega
  unfold ptr at *
  by_cases q : 0 < room
  · have e : max 0 room = room := by omega
    have HE2 := Hid.intro (HE.out room e)
    clear HE e
    go_enter Try.func7, Try.ntmps7
    go_wp2_with fail
    go_ret
    exact HE2.out.imp fun p ⟨F, A, loc, lv, wv, e, r⟩ => ⟨F, A, loc, lv, wv, by rw [← e]; rfl, r⟩
  · have q' : room ≤ 0 := by omega
    have e : max 0 room = 0 := by omega
    have HE2 := Hid.intro (HE.out 0 e)
    clear HE e q
    go_enter Try.func7, Try.ntmps7
    go_wp2_with fail
    go_ret
    exact HE2.out.imp fun p ⟨F, A, loc, lv, wv, e, r⟩ => ⟨F, A, loc, lv, wv, by rw [← e]; rfl, r⟩

/-- A byte of a row of one's own is written. -/
theorem Row.set {B : Nat} {w : World} {g n c : Nat} {xs : List Int} (h : Row B w (.slice (some ⟨g, 0, none⟩) n c) xs) (k : Nat) (hk : k < xs.length) (x : Int) : Row B (w.setCell ⟨g, k, none⟩ (.int .u8 x)) (.slice (some ⟨g, 0, none⟩) n c) (xs.set k x) := by
  rcases h.2 with ⟨e, _⟩ | ⟨g', cap, cur, e, hb, hg, h1, h2, h3, h4⟩
  · cases e
  · simp only [Value.slice.injEq, Option.some.injEq, Addr.mk.injEq, and_true] at e
    obtain ⟨rfl, rfl, rfl⟩ := e
    refine ⟨by simp, .inr ⟨g, c, cur.setIfInBounds k (.int .u8 x), ?_, hb, heap_set hg k _, ?_, h2, by simpa using h3, ?_⟩⟩
    · rw [List.length_set]
    · rw [List.length_set]; exact h1
    · rw [Array.toList_setIfInBounds, List.length_set, List.map_set, ← h4, List.take_set]
theorem Row.full {B : Nat} {w : World} {v : Value} {xs : List Int} (h : Row B w v xs) (hp : 0 < xs.length) : ∃ g c, v = .slice (some ⟨g, 0, none⟩) xs.length c ∧ B ≤ g ∧ xs.length ≤ c ∧ c ≤ maxLen ∧ (∀ k (hk : k < xs.length), w.cell? ⟨g, k, none⟩ = some (.int .u8 xs[k])) ∧ ∀ k, w.frozen? ⟨g, k, none⟩ = false := by
  have hcells : ∀ g, v.ownBlock = some g → _ := fun g hg => World.ownsRow.cells h (g := g) hg
  rcases h.2 with ⟨e, h0⟩ | ⟨g, cap, cur, rfl, hb, hg, h1, h2, h3, h4⟩
  · omega
  · refine ⟨g, cap, rfl, hb, h1, h2, fun k hk => ?_, fun k => frozen_of hg k⟩
    have := hcells g rfl k (.int .u8 xs[k]) (by simp [List.getElem?_eq_getElem hk])
    rw [Addr.add_lit, Nat.zero_add] at this
    exact this

end Go.Proofs.Ytligofmcmjblpaa

/- The document's own disk: what a pick says. -/
namespace Go.Proofs.Ytligofmcmjblpaa
open Go.RowKit
set_option linter.unusedVariables false
set_option linter.unusedSimpArgs false

theorem wrapU (n : Int) : IntKind.u64.wrap n = n % 18446744073709551616 := by simp [IntKind.wrap_u64]
theorem and62 (x : Int) (h : -9223372036854775808 ≤ x) (h0 : x < 0) : bits .and .u64 (x + 18446744073709551616) 4611686018427387903 = x % 4611686018427387904 := by
  obtain ⟨n, hn⟩ := Int.eq_ofNat_of_zero_le (show 0 ≤ x + 18446744073709551616 by omega)
  have e := u64_and_nat n 4611686018427387903 (by omega) (by decide)
  rw [hn]
  have e2 : n &&& 4611686018427387903 = n % 4611686018427387904 := Nat.and_two_pow_sub_one_eq_mod n 62
  rw [show ((4611686018427387903 : Int)) = ((4611686018427387903 : Nat) : Int) from rfl, e, e2]
  omega

end Go.Proofs.Ytligofmcmjblpaa
