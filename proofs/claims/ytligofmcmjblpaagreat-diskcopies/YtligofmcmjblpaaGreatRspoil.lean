/- The document's own disk: New, Spoil. -/
import Derived.Test.YtligofmcmjblpaaGreatRread
namespace Go.Proofs.YtligofmcmjblpaaGreat
open Go.RowKit
set_option linter.unusedVariables false
set_option linter.unusedSimpArgs false

set_option maxHeartbeats 1000000 in
theorem rnew_any (room : Int) (w : World) : Calls Tryz.prog 7 #[.int .i64 room] w fun e w' => ∃ p F A loc lv wv, e = .returned (ptr p) ∧ RefAt w' p (DS.new room) F A loc lv wv ∧ (∀ k, F k → w.heap.size ≤ k) ∧ Below w.heap.size w w' := by
  have HE : Hid (∀ R : Int, max 0 room = R → ∃ p F A loc lv wv, ptr (w.heap.size + 1) = ptr p ∧ RefAt ((w.alloc (.cells #[.slice none 0 0] 53)).alloc (.cells #[.int .i64 R, .slice none 0 0, .slice (some ⟨w.heap.size, 0, none⟩) 1 1, .int .i64 0, .int .i64 0, .int .i64 0, .int .i64 0, .bool false] 55)) p (DS.new room) F A loc lv wv ∧ (∀ k, F k → w.heap.size ≤ k) ∧ Below w.heap.size w ((w.alloc (.cells #[.slice none 0 0] 53)).alloc (.cells #[.int .i64 R, .slice none 0 0, .slice (some ⟨w.heap.size, 0, none⟩) 1 1, .int .i64 0, .int .i64 0, .int .i64 0, .int .i64 0, .bool false] 55))) := by
    intro R hR
    have hb : Below w.heap.size w (w.alloc (.cells #[.slice none 0 0] 53)) := (Below.refl _ _).alloc (Nat.le_refl _) _
    refine ⟨w.heap.size + 1, fun k => k = w.heap.size ∨ k = w.heap.size + 1, fun _ => False, fun _ => 0, .slice none 0 0, .slice (some ⟨w.heap.size, 0, none⟩) 1 1, rfl, ⟨.inr rfl, ?_, ⟨World.ownsRow_nil _ _ _ _, fun g e => by cases e⟩, ⟨[.slice none 0 0], ⟨rfl, .inr ⟨w.heap.size, 1, #[.slice none 0 0], rfl, Nat.zero_le _, ?_, Nat.le_refl _, by decide, rfl, rfl⟩⟩, fun g e => ?_, rfl, fun k x l hx hl => ?_⟩, fun i hi => hi.elim, fun i j hi => hi.elim, fun k hk => ?_, fun i hi => ?_, fun i hi => hi.elim⟩, fun k hk => ?_, hb.alloc hb.size _⟩
    · have := heap_alloc_new (w.alloc (.cells #[.slice none 0 0] 53)) (.cells #[.int .i64 R, .slice none 0 0, .slice (some ⟨w.heap.size, 0, none⟩) 1 1, .int .i64 0, .int .i64 0, .int .i64 0, .int .i64 0, .bool false] 55)
      unfold Dk
      rw [show (w.alloc (.cells #[.slice none 0 0] 53)).heap.size = w.heap.size + 1 by simp] at this
      rw [this, ← hR]
      rfl
    · rw [Below.heap_alloc _ _ _ (by simp), heap_alloc_new]
    · simp only [Value.ownBlock, Option.some.injEq] at e
      exact .inl e.symm
    · have hk : k = 0 := by have := (List.getElem?_eq_some_iff.1 hx).1; simp at this; exact this
      subst hk
      simp [DS.new] at hx hl
      subst hx
      subst hl
      exact ⟨World.ownsRow_nil _ _ _ _, fun g e => by cases e⟩
    · simp
      omega
    · rcases hi with ⟨s, hs⟩ | ⟨l, hl, s, hs⟩
      · simp [DS.new] at hs
      · simp [DS.new] at hl
        subst hl
        simp at hs
    · omega
  unfold ptr at *
  by_cases q : 0 < room
  · have e : max 0 room = room := by omega
    have HE2 := Hid.intro (HE.out room e)
    clear HE e
    go_enter Tryz.func7, Tryz.ntmps7
    go_wp2_with fail
    go_ret
    exact HE2.out.imp fun p ⟨F, A, loc, lv, wv, e, r⟩ => ⟨F, A, loc, lv, wv, by rw [← e]; rfl, r⟩
  · have q' : room ≤ 0 := by omega
    have e : max 0 room = 0 := by omega
    have HE2 := Hid.intro (HE.out 0 e)
    clear HE e q
    go_enter Tryz.func7, Tryz.ntmps7
    go_wp2_with fail
    go_ret
    exact HE2.out.imp fun p ⟨F, A, loc, lv, wv, e, r⟩ => ⟨F, A, loc, lv, wv, by rw [← e]; rfl, r⟩

/-- A byte of a row of one's own is written. -/
theorem Row.set {B : Nat} {w : World} {g n c : Nat} {xs : List Int} (h : Row B w (.slice (some ⟨g, 0, none⟩) n c) xs) (k : Nat) (hk : k < xs.length) (x : Int) : Row B (w.setCell ⟨g, k, none⟩ (.int .u8 x)) (.slice (some ⟨g, 0, none⟩) n c) (xs.set k x) := by
  rcases h.2 with ⟨e, _⟩ | ⟨g', cap, cur, e, hb, hg, h1, h2, h3, h4⟩
  · cases e
  · simp only [Value.slice.injEq, Option.some.injEq, Addr.mk.injEq, and_true] at e
    obtain ⟨rfl, rfl, rfl⟩ := e
    refine ⟨by simp, .inr ⟨g, c, cur.setIfInBounds k (.int .u8 x), ?_, hb, heap_set hg k _, ?_, h2, by simpa using h3, ?_⟩⟩
    · rw [List.length_set]
    · rw [List.length_set]; exact h1
    · rw [Array.toList_setIfInBounds, List.length_set, List.map_set, ← h4, List.take_set]
theorem Row.full {B : Nat} {w : World} {v : Value} {xs : List Int} (h : Row B w v xs) (hp : 0 < xs.length) : ∃ g c, v = .slice (some ⟨g, 0, none⟩) xs.length c ∧ B ≤ g ∧ xs.length ≤ c ∧ c ≤ maxLen ∧ (∀ k (hk : k < xs.length), w.cell? ⟨g, k, none⟩ = some (.int .u8 xs[k])) ∧ ∀ k, w.frozen? ⟨g, k, none⟩ = false := by
  have hcells : ∀ g, v.ownBlock = some g → _ := fun g hg => World.ownsRow.cells h (g := g) hg
  rcases h.2 with ⟨e, h0⟩ | ⟨g, cap, cur, rfl, hb, hg, h1, h2, h3, h4⟩
  · omega
  · refine ⟨g, cap, rfl, hb, h1, h2, fun k hk => ?_, fun k => frozen_of hg k⟩
    have := hcells g rfl k (.int .u8 xs[k]) (by simp [List.getElem?_eq_getElem hk])
    rw [Addr.add_lit, Nat.zero_add] at this
    exact this

set_option maxHeartbeats 1000000 in
set_option maxRecDepth 100000 in
theorem rspoil_any (p : Nat) (σ : DS) (F A : Nat → Prop) (loc : Nat → Nat) (lv wv : Value) (s : ByteArray) (at_ x : Int) (w : World) (h : RefAt w p σ F A loc lv wv) (hi : Inv σ) :
    Calls Tryz.prog 36 #[ptr p, .string s, .int .i64 at_, .int .u8 x] w fun e w' => e = .returned (.bool (σ.spoil s at_ x).1) ∧ Nxt w p (σ.spoil s at_ x).2 F w' := by
  have HR : Hid (RefAt w p σ F A loc lv wv) := h
  have HS : Hid (∀ {w1 : World}, Below w.heap.size w w1 → Nxt w p σ F w1) := fun hb => ⟨F, A, loc, lv, wv, h.later hb, below_kept hb, fun k hk => .inl hk⟩
  have c7 := cell_of h.blk 7
  simp only [List.getElem?_toArray, List.getElem?_cons_succ, List.getElem?_cons_zero] at c7
  have k4 := rfind_any p σ.room lv wv σ.c F loc σ.dir s w h.blk h.dir (by have := hi.dn; omega)
  cases ho : σ.c.off with
  | true =>
    have hr : σ.spoil s at_ x = (false, σ) := by rw [DS.spoil, ho]; rfl
    rw [hr]
    rw [ho] at c7
    unfold ptr at *
    clear hr h hi
    go_enter Tryz.func36, Tryz.ntmps36
    go_wp2_with (go_at_call 47; refine k4.mono ?_; rintro e w4 ⟨rfl, hb4⟩; have z7 := cell_later hb4 c7)
    go_ret
    exact ⟨rfl, HS.out hb4⟩
  | false =>
    rw [ho] at c7
    cases hf : fnd σ.dir s with
    | none =>
      have hr : σ.spoil s at_ x = (false, σ) := by rw [DS.spoil, ho, hf]; rfl
      rw [hr]
      rw [hf] at k4
      simp only [optp] at k4
      unfold ptr at *
      clear hr h hi
      go_enter Tryz.func36, Tryz.ntmps36
      go_wp2_with (go_at_call 47; refine k4.mono ?_; rintro e w4 ⟨rfl, hb4⟩; have z7 := cell_later hb4 c7)
      go_ret
      exact ⟨rfl, HS.out hb4⟩
    | some i =>
      obtain ⟨data, sure, hds⟩ : ∃ data sure, σ.fl i = (data, sure) := ⟨_, _, rfl⟩
      have hif := hi.fl i
      rw [hds] at hif
      rw [hf] at k4
      simp only [optp] at k4
      have hr0 : σ.spoil s at_ x = if 0 ≤ at_ ∧ at_ < (data.length : Int) then (true, { σ with fl := upd σ.fl i (data.set at_.toNat x, sure) }) else (false, σ) := by
        rw [DS.spoil, ho, hf]
        simp only [hds]
        rfl
      have HA : A i := by obtain ⟨a, ha⟩ := fnd_mem hf; exact h.al i (.inl ⟨a, ha⟩)
      have HA2 : Hid (A i) := HA
      obtain ⟨ao, cap, x1, x2, x3, x4, x5, x6, x7, y0, y1, y2, y3⟩ := file_facts h HA data sure hds hif.2.2
      have X1 := Hid.intro x1
      have HX : Hid ((ao = none → data.length = 0 ∧ cap = 0) ∧ Byt w ao data.length (xof data) ∧ Okb data ∧ data.length ≤ 4194304) := ⟨x4, x7, hif.2.2, hif.1⟩
      unfold ptr at *
      clear h hi x1 x2 x3 x4 x5 x6 x7 hif hds hf ho y1 y3 HA
      by_cases q1 : at_ < 0
      · have d1 : decide (at_ < 0) = true := decide_eq_true q1
        rw [if_neg (by omega)] at hr0
        rw [hr0]
        clear hr0
        go_enter Tryz.func36, Tryz.ntmps36
        go_wp2_with (go_at_call 47; refine k4.mono ?_; rintro e w4 ⟨rfl, hb4⟩; have z7 := cell_later hb4 c7; have y5 := cell_later hb4 y0)
        go_ret
        exact ⟨rfl, HS.out hb4⟩
      · have d1 : decide (at_ < 0) = false := decide_eq_false q1
        obtain ⟨a, rfl⟩ := Int.eq_ofNat_of_zero_le (show 0 ≤ at_ by omega)
        by_cases q2 : (data.length : Int) ≤ (a : Int)
        · have d2 : decide ((data.length : Int) ≤ (a : Int)) = true := decide_eq_true q2
          rw [if_neg (by omega)] at hr0
          rw [hr0]
          clear hr0 q1
          go_enter Tryz.func36, Tryz.ntmps36
          go_wp2_with (go_at_call 47; refine k4.mono ?_; rintro e w4 ⟨rfl, hb4⟩; have z7 := cell_later hb4 c7; have y5 := cell_later hb4 y0)
          go_ret
          exact ⟨rfl, HS.out hb4⟩
        · have d2 : decide ((data.length : Int) ≤ (a : Int)) = false := decide_eq_false q2
          rw [if_pos (by omega)] at hr0
          rw [hr0]
          have qa : a < data.length := by omega
          have HQ : Hid (a < data.length) := qa
          clear hr0 q1 q2
          go_enter Tryz.func36, Tryz.ntmps36
          go_wp2_with (first | (go_at_call 47; refine k4.mono ?_; rintro e w4 ⟨rfl, hb4⟩; have z7 := cell_later hb4 c7; have y5 := cell_later hb4 y0) | (at_builtin; refine wpList_app rfl (.const (.slice none 0 0)) (.tmp 38) rfl w.heap.size _ [] rfl (Row.nil _ _) ao data.length cap (xof data) rfl HX.out.1 (HX.out.2.1.later hb4) (by have := HX.out.2.2.2; simp; omega) hb4.size ?_; intro v6 w6 r6 g6 m6; have b6 := hb4.trans ((grown_none g6).mono hb4.size); rw [List.nil_append, bs_xof HX.out.2.2.1] at r6; obtain ⟨g, c, rfl, n1, n2, n3, n4, n5⟩ := Row.full r6 (by have := HQ.out; omega); have n6 := n4 a HQ.out; have n7 := n5 a; have y6 := cell_later b6 y0; have e6 := (b6.frozen (p := ⟨loc i, 0, none⟩) (block_lt_of_cell y0)).trans y2; have ne : loc i ≠ g := Nat.ne_of_lt (Nat.lt_of_lt_of_le (block_lt_of_cell y0) n1)))
          go_ret
          have e8 : loc i < w.heap.size := block_lt_of_cell y0
          refine ⟨rfl, nx_file (sure := sure) HR.out HA2.out ⟨b6.os, b6.tape, b6.output, by have := b6.size; simp [World.setCell]; exact this, fun k hk hn => ?_⟩ ?_ (Row.zero (Row.set (ownsRow_setCell_below r6 (a := ⟨loc i, 0, none⟩) e8 _) a HQ.out x)) fun b e => ?_⟩
          · rw [Below.heap_setCell _ _ _ _ (show k ≠ g by omega), Below.heap_setCell _ _ _ _ (show k ≠ loc i from fun e => hn (by rw [e]))]
            exact b6.block k hk
          · rw [Below.heap_setCell _ _ _ _ ne]
            exact heap_set (by rw [b6.block _ e8]; exact X1.out) 0 _
          · simp only [Value.ownBlock, Option.some.injEq] at e
            subst e
            exact .inr n1
end Go.Proofs.YtligofmcmjblpaaGreat
