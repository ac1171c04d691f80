/- The document's own disk: New, Spoil. -/
import Derived.Test.YtligofmcmjblpaaRread
namespace Go.Proofs.Ytligofmcmjblpaa
open Go.RowKit
set_option linter.unusedVariables false
set_option linter.unusedSimpArgs false

set_option maxHeartbeats 1000000 in
theorem rnew_any (room : Int) (w : World) : Calls Try.prog 7 #[.int .i64 room] w fun e w' => ∃ p F A loc lv wv, e = .returned (ptr p) ∧ RefAt w' p (DS.new room) F A loc lv wv ∧ (∀ k, F k → w.heap.size ≤ k) ∧ Below w.heap.size w w' := by
  have HE : Hid (∀ R : Int, max 0 room = R → ∃ p F A loc lv wv, ptr (w.heap.size + 1) = ptr p ∧ RefAt ((w.alloc (.cells #[.slice none 0 0] 57)).alloc (.cells #[.int .i64 R, .slice none 0 0, .slice (some ⟨w.heap.size, 0, none⟩) 1 1, .int .i64 0, .int .i64 0, .int .i64 0, .int .i64 0, .bool false] 59)) p (DS.new room) F A loc lv wv ∧ (∀ k, F k → w.heap.size ≤ k) ∧ Below w.heap.size w ((w.alloc (.cells #[.slice none 0 0] 57)).alloc (.cells #[.int .i64 R, .slice none 0 0, .slice (some ⟨w.heap.size, 0, none⟩) 1 1, .int .i64 0, .int .i64 0, .int .i64 0, .int .i64 0, .bool false] 59))) := by
    intro R hR
    have hb : Below w.heap.size w (w.alloc (.cells #[.slice none 0 0] 57)) := (Below.refl _ _).alloc (Nat.le_refl _) _
    refine ⟨w.heap.size + 1, fun k => k = w.heap.size ∨ k = w.heap.size + 1, fun _ => False, fun _ => 0, .slice none 0 0, .slice (some ⟨w.heap.size, 0, none⟩) 1 1, rfl, ⟨.inr rfl, ?_, ⟨World.ownsRow_nil _ _ _ _, fun g e => by cases e⟩, ⟨[.slice none 0 0], ⟨rfl, .inr ⟨w.heap.size, 1, #[.slice none 0 0], rfl, Nat.zero_le _, ?_, Nat.le_refl _, by decide, rfl, rfl⟩⟩, fun g e => ?_, rfl, fun k x l hx hl => ?_⟩, fun i hi => hi.elim, fun i j hi => hi.elim, fun k hk => ?_, fun i hi => ?_, fun i hi => hi.elim⟩, fun k hk => ?_, hb.alloc hb.size _⟩
    · have := heap_alloc_new (w.alloc (.cells #[.slice none 0 0] 57)) (.cells #[.int .i64 R, .slice none 0 0, .slice (some ⟨w.heap.size, 0, none⟩) 1 1, .int .i64 0, .int .i64 0, .int .i64 0, .int .i64 0, .bool false] 59)
      unfold Dk
      rw [show (w.alloc (.cells #[.slice none 0 0] 57)).heap.size = w.heap.size + 1 by simp] at this
      rw [this, ← hR]
      rfl
    · rw [Below.heap_alloc _ _ _ (by simp), heap_alloc_new]
    · simp only [Value.ownBlock, Option.some.injEq] at e
      exact .inl e.symm
    · have hk : k = 0 := by have := (List.getElem?_eq_some_iff.1 hx).1; simp at this; exact this
      subst hk
      simp [DS.new] at hx hl
      subst hx
      subst hl
      exact ⟨World.ownsRow_nil _ _ _ _, fun g e => by cases e⟩
    · simp
      omega
    · rcases hi with ⟨s, hs⟩ | ⟨l, hl, s, hs⟩
      · simp [DS.new] at hs
      · simp [DS.new] at hl
        subst hl
        simp at hs
    · omega
  unfold ptr at *
  by_cases q : 0 < room
  · have e : max 0 room = room := by omega
    have HE2 := Hid.intro (HE.out room e)
    clear HE e
    go_enter Try.func7, Try.ntmps7
    go_wp2_with fail
    go_ret
    exact HE2.out.imp fun p ⟨F, A, loc, lv, wv, e, r⟩ => ⟨F, A, loc, lv, wv, by rw [← e]; rfl, r⟩
  · have q' : room ≤ 0 := by omega
    have e : max 0 room = 0 := by omega
    have HE2 := Hid.intro (HE.out 0 e)
    clear HE e q
    go_enter Try.func7, Try.ntmps7
    go_wp2_with fail
    go_ret
    exact HE2.out.imp fun p ⟨F, A, loc, lv, wv, e, r⟩ => ⟨F, A, loc, lv, wv, by rw [← e]; rfl, r⟩

/-- A byte of a row of one's own is written. -/
theorem Row.set {B : Nat} {w : World} {g n c : Nat} {xs : List Int} (h : Row B w (.slice (some ⟨g, 0, none⟩) n c) xs) (k : Nat) (hk : k < xs.length) (x : Int) : Row B (w.setCell ⟨g, k, none⟩ (.int .u8 x)) (.slice (some ⟨g, 0, none⟩) n c) (xs.set k x) := by
  rcases h.2 with ⟨e, _⟩ | ⟨g', cap, cur, e, hb, hg, h1, h2, h3, h4⟩
  · cases e
  · simp only [Value.slice.injEq, Option.some.injEq, Addr.mk.injEq, and_true] at e
    obtain ⟨rfl, rfl, rfl⟩ := e
    refine ⟨by simp, .inr ⟨g, c, cur.setIfInBounds k (.int .u8 x), ?_, hb, heap_set hg k _, ?_, h2, by simpa using h3, ?_⟩⟩
    · rw [List.length_set]
    · rw [List.length_set]; exact h1
    · rw [Array.toList_setIfInBounds, List.length_set, List.map_set, ← h4, List.take_set]
theorem Row.full {B : Nat} {w : World} {v : Value} {xs : List Int} (h : Row B w v xs) (hp : 0 < xs.length) : ∃ g c, v = .slice (some ⟨g, 0, none⟩) xs.length c ∧ B ≤ g ∧ xs.length ≤ c ∧ c ≤ maxLen ∧ (∀ k (hk : k < xs.length), w.cell? ⟨g, k, none⟩ = some (.int .u8 xs[k])) ∧ ∀ k, w.frozen? ⟨g, k, none⟩ = false := by
  have hcells : ∀ g, v.ownBlock = some g → _ := fun g hg => World.ownsRow.cells h (g := g) hg
  rcases h.2 with ⟨e, h0⟩ | ⟨g, cap, cur, rfl, hb, hg, h1, h2, h3, h4⟩
  · omega
  · refine ⟨g, cap, rfl, hb, h1, h2, fun k hk => ?_, fun k => frozen_of hg k⟩
    have := hcells g rfl k (.int .u8 xs[k]) (by simp [List.getElem?_eq_getElem hk])
    rw [Addr.add_lit, Nat.zero_add] at this
    exact this

end Go.Proofs.Ytligofmcmjblpaa
