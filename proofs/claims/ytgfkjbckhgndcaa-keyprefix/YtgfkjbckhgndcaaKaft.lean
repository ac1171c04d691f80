/- The document's own After. -/
import Derived.Test.YtgfkjbckhgndcaaKcmp
namespace Go.Proofs.Ytgfkjbckhgndcaa
open Go.RowKit
set_option linter.unusedVariables false
set_option linter.unusedSimpArgs false

theorem aft_all : ∀ {xs : List Int}, (∀ x ∈ xs, x = 255) → aft xs = none
  | [], _ => rfl
  | x :: r, h => by
    have ih := aft_all (xs := r) fun y hy => h y (List.mem_cons_of_mem _ hy)
    have hx := h x (List.mem_cons_self ..)
    simp [aft, ih, hx]
theorem aft_app {x : Int} {t : List Int} (hx : x ≠ 255) (ht : ∀ y ∈ t, y = 255) : ∀ p : List Int, aft (p ++ x :: t) = some (p ++ [x + 1])
  | [] => by simp [aft, aft_all ht, hx]
  | y :: p => by
    have ih := aft_app hx ht p
    rw [List.cons_append, aft, ih]
    rfl
theorem aft_at {xs : List Int} {m : Nat} (hm : m < xs.length) (hx : xs[m] ≠ 255) (h : ∀ y ∈ xs.drop (m + 1), y = 255) : aft xs = some (xs.take m ++ [xs[m] + 1]) := by
  have e : xs = xs.take m ++ xs[m] :: xs.drop (m + 1) := by rw [← List.drop_eq_getElem_cons hm, List.take_append_drop]
  have := aft_app hx h (xs.take m)
  rw [← e] at this
  exact this
theorem Row.short {B : Nat} {w : World} {g n cap : Nat} {xs : List Int} (h : Row B w (.slice (some ⟨g, 0, none⟩) n cap) xs) (k : Nat) (hk : k ≤ n) : Row B w (.slice (some ⟨g, 0, none⟩) k cap) (xs.take k) := by
  rcases h.2 with ⟨e, _⟩ | ⟨g', cap', cur, e, h1, h2, h3, h4, h5, h6⟩
  · cases e
  · simp only [Value.slice.injEq, Option.some.injEq, Addr.mk.injEq, and_true] at e
    obtain ⟨rfl, hn, rfl⟩ := e
    have hl : (xs.take k).length = k := by rw [List.length_take]; omega
    unfold Row
    rw [hl]
    refine ⟨by rw [List.length_map, hl]; omega, .inr ⟨g, cap, cur, rfl, h1, h2, by omega, h4, h5, ?_⟩⟩
    have : cur.toList.take (k * 1) = (cur.toList.take (xs.length * 1)).take k := by
      rw [List.take_take]
      congr 1
      omega
    rw [this, h6, List.map_take]
theorem Row.at {B : Nat} {w : World} {g cap : Nat} {xs : List Int} (h : Row B w (.slice (some ⟨g, 0, none⟩) xs.length cap) xs) (j : Nat) (hj : j < xs.length) : w.cell? ⟨g, j, none⟩ = some (.int .u8 xs[j]) ∧ w.frozen? ⟨g, j, none⟩ = false := by
  refine ⟨?_, World.ownsRow.frozenAt h j⟩
  rw [World.ownsRow.cellAt h j (by omega)]
  simp [hj]
theorem Row.set {B : Nat} {w : World} {g cap : Nat} {xs : List Int} (h : Row B w (.slice (some ⟨g, 0, none⟩) xs.length cap) xs) (j : Nat) (u : Nat) : Row B (w.setCell ⟨g, j, none⟩ (.int .u8 (u : Int))) (.slice (some ⟨g, 0, none⟩) xs.length cap) (xs.set j (u : Int)) ∧ w.grownBy (w.setCell ⟨g, j, none⟩ (.int .u8 (u : Int))) (some g) := by
  obtain ⟨h1, h2⟩ := World.ownsRow.stored h j (.int .u8 (u : Int))
  refine ⟨?_, h2⟩
  unfold Row
  rw [List.map_set, List.length_set]
  exact h1
theorem cutA_none (cap : Nat) : cutA none cap 0 = none := by
  unfold cutA
  split <;> rfl
theorem take_set {xs : List Int} {m : Nat} (hm : m < xs.length) (y : Int) : (xs.take (m + 1)).set m y = xs.take m ++ [y] := by
  apply List.ext_getElem
  · simp; omega
  · intro i h1 h2
    rw [List.getElem_set]
    simp at h1
    by_cases e : m = i
    · subst e
      simp [List.getElem_append_right, List.length_take, Nat.min_eq_left (Nat.le_of_lt hm)]
    · rw [if_neg e, List.getElem_append_left (by rw [List.length_take]; omega)]
      simp

/-- What After tells. -/
def Af (xs : List Int) (B : Nat) (e : Ending) (w' : World) : Prop := ∃ v, e = .returned (.tuple #[v, .bool (aft xs).isSome]) ∧ Row B w' v ((aft xs).getD [])

set_option maxHeartbeats 2000000 in
set_option maxRecDepth 100000 in
theorem raft_any {w : World} {ao : Option Addr} {len cap : Nat} {xs : List Int} (h : Sl w ao len cap xs) (hl : len ≤ 140737488355000) :
    Calls Try.prog 19 #[.slice ao len cap] w fun e w' => Af xs w.heap.size e w' ∧ Below w.heap.size w w' := by
  have HS : Hid (Sl w ao len cap xs ∧ len ≤ 140737488355000) := ⟨h, hl⟩
  have hmax : len ≤ 2 ^ 62 := by omega
  clear h hl
  go_enter Try.func19, Try.ntmps19
  go_upto_block 0 with (at_builtin; refine wpList_app rfl _ _ rfl w.heap.size _ [] (by simp [Act.eval]) (Row.nil _ _) ao len cap (xof xs) (by simp [Act.eval]) HS.out.1.2.2.1 HS.out.1.2.2.2.2.2 (by have := HS.out.2; simp; omega) (Nat.le_refl _) ?_; intro v1 w1 hr1 hg1 hm1)
  have hb1 : Below w.heap.size w w1 := grown_below (Row.nil _ _) hg1 (Nat.le_refl _)
  rw [List.nil_append, ← HS.out.1.1, bs_xof HS.out.1.2.1] at hr1
  obtain ⟨a1, c1, hv1, hs1⟩ := Sl.ofRow hr1 HS.out.1.2.1
  subst hv1
  have hown : a1 = none ∨ ∃ g, a1 = some ⟨g, 0, none⟩ := by
    rcases hr1.2 with ⟨e, _⟩ | ⟨g, _, _, e, _⟩
    · simp only [Value.slice.injEq] at e
      exact .inl e.1
    · simp only [Value.slice.injEq] at e
      exact .inr ⟨g, e.1⟩
  have hca : cutA a1 c1 0 = a1 := by
    rcases hown with e | ⟨g, e⟩
    · rw [e]; exact cutA_none c1
    · rw [e]; exact cutA_zero
  have hlc : xs.length ≤ c1 := hs1.2.2.2.1
  rw [HS.out.1.1]
  have H1 : Hid (Row w.heap.size w1 (.slice a1 xs.length c1) xs ∧ Below w.heap.size w w1 ∧ Sl w1 a1 xs.length c1 xs ∧ xs.length ≤ c1 ∧ xs.length = len) := ⟨hr1, hb1, hs1, hlc, HS.out.1.1⟩
  clear hr1 hg1 hm1 hb1 hs1 hlc
  go_cut [4] from 7 to 23 (fun s4 wx => ∃ k : Nat, s4 = .slice a1 k c1 ∧ wx = w1 ∧ Hid (k ≤ len ∧ (∀ y ∈ xs.drop k, y = 255) ∧ (∀ m, k = m + 1 → ∀ hm : m < xs.length, xs[m] ≠ 255)))
  case first =>
    go_wp2_with fail
    go_loopg [4] len (fun g o wr => o = .slice a1 g c1 ∧ wr = w1 ∧ Hid (g ≤ len ∧ ∀ y ∈ xs.drop g, y = 255))
    case atStart => exact ⟨rfl, rfl, Nat.le_refl _, fun y hy => by rw [List.drop_of_length_le (by have := H1.out.2.2.2.2; omega)] at hy; cases hy⟩
    case round =>
      obtain ⟨rfl, hwr, HK⟩ := hrel
      obtain rfl := hwr.symm
      by_cases q : gk = 0
      · subst q
        have hg : (((0 : Nat) : Int) > 0) = False := by simp
        go_wp2_with fail
        go_meet
        exact ⟨0, rfl, rfl, Nat.zero_le _, HK.out.2, fun m e => by cases e⟩
      · obtain ⟨m, rfl⟩ : ∃ m, gk = m + 1 := ⟨gk - 1, by omega⟩
        have hmx : m < xs.length := by have := HK.out.1; have := H1.out.2.2.2.2; omega
        obtain ⟨h8, b, off, hab, hc⟩ := H1.out.2.2.1.2.2.2.2.2 m hmx
        have hoff : off = 0 := by
          rcases hown with e | ⟨g, e⟩
          · rw [e] at hab; cases hab
          · rw [e] at hab; cases hab; rfl
        subst hoff
        subst hab
        rw [Nat.zero_add] at hc
        have hx := xof_at HS.out.1.2.1 hmx
        obtain ⟨c, hcc⟩ : ∃ c, c = xof xs m := ⟨_, rfl⟩
        rw [← hcc] at hc hx h8
        have hm62 : m ≤ 2 ^ 61 := by have := HK.out.1; have := HS.out.2; omega
        have hh := fun w => run_head22 w (some ⟨b, 0, none⟩) (m + 1) c1 m (by have := H1.out.2.2.2.1; omega)
        rw [hca] at hh
        by_cases z : c = 255
        · subst z
          have HN : Hid (m ≤ len ∧ ∀ y ∈ xs.drop m, y = 255) := by
            refine ⟨by have := HK.out.1; omega, fun y hy => ?_⟩
            rw [List.drop_eq_getElem_cons hmx] at hy
            rcases List.mem_cons.1 hy with e | e
            · rw [e, hx]; rfl
            · exact HK.out.2 y e
          clear q h8 hx hcc
          go_wp2_with fail
          go_roundg m
          case measure => omega
          case rel => exact ⟨rfl, rfl, HN⟩
        · have zb : ((c : Int) == 255) = false := by simp; omega
          have HN : Hid (∀ m', m + 1 = m' + 1 → ∀ hm : m' < xs.length, xs[m'] ≠ 255) := fun m' e hm => by
            obtain rfl : m = m' := by omega
            rw [hx]
            omega
          clear q h8 hx hcc z
          go_wp2_with fail
          go_meet
          exact ⟨m + 1, rfl, rfl, HK.out.1, HK.out.2, HN.out⟩
  case rest =>
    obtain ⟨k, rfl, hwx, HK⟩ := hcut
    obtain rfl := hwx.symm
    cases k with
    | zero =>
      have HT : Hid (aft xs = none) := aft_all fun y hy => HK.out.2.1 y hy
      go_wp2_with fail
      exact bodyPost_ret (v := .tuple #[.slice none 0 0, .bool false]) (by simp [results, Try.results19, go_sem]) rfl ⟨⟨_, by rw [HT.out]; rfl, by rw [HT.out]; exact Row.nil _ _⟩, H1.out.2.1⟩
    | succ m =>
      have hmx : m < xs.length := by have := HK.out.1; have := H1.out.2.2.2.2; omega
      have hne := HK.out.2.2 m rfl hmx
      have hT := aft_at hmx hne HK.out.2.1
      obtain ⟨g, hg⟩ : ∃ g, a1 = some ⟨g, 0, none⟩ := by
        rcases hown with e | e
        · have := (H1.out.2.2.1.2.2.1 e).1
          omega
        · exact e
      subst hg
      have hsh := H1.out.1.short (m + 1) (by omega)
      have hlen : (xs.take (m + 1)).length = m + 1 := by rw [List.length_take]; omega
      have hx := xof_at HS.out.1.2.1 hmx
      have h8 := HS.out.1.2.1 xs[m] (List.getElem_mem hmx)
      obtain ⟨c, hcc⟩ : ∃ c, c = xof xs m := ⟨_, rfl⟩
      rw [← hcc] at hx
      rw [hx] at hT hne h8
      have hc255 : c + 1 < 256 := by omega
      have hsh : Row w.heap.size w1 (.slice (some ⟨g, 0, none⟩) (xs.take (m + 1)).length c1) (xs.take (m + 1)) := by rw [hlen]; exact hsh
      obtain ⟨hcell, hfz⟩ := hsh.at m (by omega)
      have e1 : (xs.take (m + 1))[m]'(by omega) = (c : Int) := by rw [List.getElem_take, hx]
      rw [e1] at hcell
      obtain ⟨hset, hgrow⟩ := hsh.set m (c + 1)
      rw [take_set hmx, hlen] at hset
      have HF : Hid (Row w.heap.size (w1.setCell ⟨g, m, none⟩ (.int .u8 ((c + 1 : Nat) : Int))) (.slice (some ⟨g, 0, none⟩) (m + 1) c1) (xs.take m ++ [((c + 1 : Nat) : Int)]) ∧ Below w.heap.size w (w1.setCell ⟨g, m, none⟩ (.int .u8 ((c + 1 : Nat) : Int))) ∧ aft xs = some (xs.take m ++ [((c + 1 : Nat) : Int)])) := by
        refine ⟨hset, H1.out.2.1.trans (grown_below hsh hgrow H1.out.2.1.size), ?_⟩
        rw [hT]
        rfl
      have hm62 : m ≤ 2 ^ 61 := by have := HK.out.1; have := HS.out.2; omega
      have hcl : (m : Int) < (c1 : Int) := by have := H1.out.2.2.2.1; omega
      clear hT hne h8 hx hcc hset hgrow hsh hlen e1 HK
      go_wp2_with fail
      refine bodyPost_ret (v := .tuple #[.slice (some ⟨g, 0, none⟩) (m + 1) c1, .bool true]) (by simp [results, Try.results19, go_sem]) rfl ⟨⟨_, by rw [HF.out.2.2]; rfl, ?_⟩, ?_⟩
      · rw [HF.out.2.2]; exact HF.out.1
      · exact HF.out.2.1
end Go.Proofs.Ytgfkjbckhgndcaa
