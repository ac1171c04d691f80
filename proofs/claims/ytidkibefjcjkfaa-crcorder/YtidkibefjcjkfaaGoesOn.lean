/- The law that sums go on. -/
import Derived.Test.YtidkibefjcjkfaaMasks
namespace Go.Proofs.Ytidkibefjcjkfaa
open Go.RowKit
set_option linter.unusedVariables false

def ints (l : List Nat) : List Int := l.map Int.ofNat
theorem bs_ints (X : Nat → Nat) (n : Nat) : bs X n = ints (bl X n) := by simp [bs, ints, bl]
theorem ints_length (l : List Nat) : (ints l).length = l.length := by simp [ints]
theorem ints_app (l m : List Nat) : ints (l ++ m) = ints l ++ ints m := by simp [ints]
theorem okb_ints {l : List Nat} (h : ∀ x ∈ l, x < 256) : Okb (ints l) := fun x hx => by
  obtain ⟨y, hy, rfl⟩ := List.mem_map.1 hx
  have := h y hy
  rw [Int.ofNat_eq_natCast]
  omega
theorem bl_xof (l : List Nat) : bl (xof (ints l)) l.length = l := by
  apply List.ext_getElem
  · simp [bl]
  · intro i h1 h2
    simp [bl, xof, ints, List.getElem?_eq_getElem h2]

theorem zero_more : 0 = more 0 [] := by decide +kernel
/-- The rows of bytes that came in. -/
def Rws (w : World) (ao : Option Addr) (len : Nat) (A : Nat → Option Addr) (LN C : Nat → Nat) (S : Nat → Nat → Nat) : Prop :=
  ∀ k, k < len → (∃ b off, ao = some ⟨b, off, none⟩ ∧ w.cell? ⟨b, off + k, none⟩ = some (.slice (A k) (LN k) (C k))) ∧ Byt w (A k) (LN k) (S k) ∧ (A k = none → LN k = 0 ∧ C k = 0)
theorem Rws.later {w w' : World} {ao : Option Addr} {len : Nat} {A : Nat → Option Addr} {LN C : Nat → Nat} {S : Nat → Nat → Nat} (h : Rws w ao len A LN C S) (hb : Below w.heap.size w w') : Rws w' ao len A LN C S := fun k hk => by
  obtain ⟨⟨b, off, e, hc⟩, h2, h3⟩ := h k hk
  exact ⟨⟨b, off, e, cell_later hb hc⟩, h2.later hb, h3⟩
/-- The bytes of the first k. -/
def cat (LN : Nat → Nat) (S : Nat → Nat → Nat) : Nat → List Nat
  | 0 => []
  | k + 1 => cat LN S k ++ bl (S k) (LN k)

def Gon (W : World) (LN : Nat → Nat) (S : Nat → Nat → Nat) (w : World) (k : Nat) (v : Value) (t : Nat) : Prop :=
  Row W.heap.size w v (ints (cat LN S k)) ∧ t = more 0 (cat LN S k) ∧ Below W.heap.size W w ∧ k ≤ 50 ∧ (cat LN S k).length ≤ 2000 * k ∧ (∀ x ∈ cat LN S k, x < 256)

set_option maxHeartbeats 1000000 in
set_option maxRecDepth 100000 in
theorem goes_any (so : Option Addr) (sl sc : Nat) (A : Nat → Option Addr) (LN C : Nat → Nat) (S : Nat → Nat → Nat) (W : World) (hR : Rws W so sl A LN C S) :
    Calls Try.prog 5 #[.slice so sl sc] W fun e w' => e = .returned (.bool true) ∧ Below W.heap.size W w' := by
  have HN : Hid (Rws W so sl A LN C S) := hR
  clear hR
  have fin : ∀ w1 w2, Below W.heap.size W w1 → Below w1.heap.size w1 w2 → Below W.heap.size W w2 := fun w1 w2 h1 h2 => h1.trans (h2.mono h1.size)
  go_enter Try.func5, Try.ntmps5
  go_wp2_with fail
  go_loopg [3, 4, 9] sl (fun g v s i wr => ∃ (k t : Nat), k + g = sl ∧ i = .int .i64 (k : Int) ∧ s = .int .u32 (t : Int) ∧ Hid (Gon W LN S wr k v t))
  case atStart => exact ⟨0, 0, by omega, rfl, rfl, Row.nil _ _, zero_more, Below.refl _ _, by omega, by simp [cat], by simp [cat]⟩
  case round =>
    obtain ⟨k, t, hk, rfl, rfl, HG⟩ := hrel
    by_cases h : k < sl
    · obtain ⟨⟨b1, off1, hso, hcell⟩, hby, hnil⟩ := (HN.out.later HG.out.2.2.1) k h
      subst hso
      have h' : (k : Int) < (sl : Int) := by omega
      have h50 : (k : Int) ≤ 50 := by have := HG.out.2.2.2.1; omega
      obtain ⟨GK, HK⟩ : ∃ g, Hid (g < gk ∧ k + 1 + g = sl) := ⟨gk - 1, by omega, by omega⟩
      obtain ⟨Ak, hAk⟩ : ∃ a, a = A k := ⟨_, rfl⟩
      obtain ⟨Ck, hCk⟩ : ∃ a, a = C k := ⟨_, rfl⟩
      obtain ⟨ls, hls⟩ : ∃ a, a = LN k := ⟨_, rfl⟩
      obtain ⟨X, hX⟩ : ∃ a, a = S k := ⟨_, rfl⟩
      rw [← hAk, ← hCk, ← hls] at hcell hnil
      have hbyW := (HN.out k h).2.1
      rw [← hAk, ← hls, ← hX] at hby hbyW
      by_cases h5 : k < 50
      · have h5' : (k : Int) < 50 := by omega
        by_cases h2 : ls ≤ 2000
        · have h2' : (ls : Int) ≤ 2000 := by omega
          have hX8 : ∀ x ∈ bl X ls, x < 256 := bl_lt hby (Nat.le_refl _)
          have HA : Hid (Byt wr Ak ls X ∧ (Ak = none → ls = 0 ∧ Ck = 0) ∧ (ints (cat LN S k)).length + ls ≤ 140737488355328 ∧ W.heap.size ≤ wr.heap.size) := ⟨hby, hnil, by rw [ints_length]; have := HG.out.2.2.2.2.1; omega, HG.out.2.2.1.size⟩
          have hm : ∀ w5, Below W.heap.size W w5 → Calls Try.prog 10 #[.int .u32 (t : Int), .slice Ak ls Ck] w5 fun e w' => e = .returned (.int .u32 (more t (bl X ls) : Nat)) ∧ w' = w5 := fun w5 hb => more_any t Ak ls Ck X w5 (by rw [HG.out.2.1]; exact more_lt (by decide) HG.out.2.2.2.2.2) (hbyW.later hb) (by simp only [maxLen]; omega)
          have HX : Hid (ls = LN k ∧ X = S k ∧ ls ≤ 2000 ∧ k < 50 ∧ ∀ x ∈ bl X ls, x < 256) := ⟨hls, hX, h2, h5, hX8⟩
          obtain ⟨t1, ht1⟩ : ∃ t1, t1 = more t (bl X ls) := ⟨_, rfl⟩
          rw [← ht1] at hm
          have HT1 : Hid (t1 = more 0 (cat LN S (k + 1))) := by
            show t1 = more 0 (cat LN S (k + 1))
            rw [ht1, HG.out.2.1, more_append, hls, hX]
            rfl
          clear hk h h5 h2 hby hbyW hnil hls hX hAk hCk hX8 ht1
          go_upto_region 9 with (at_builtin; refine wpList_app rfl (.tmp 22) (.tmp 23) rfl W.heap.size u3 (ints (cat LN S k)) rfl HG.out.1 Ak ls Ck X rfl HA.out.2.1 HA.out.1 HA.out.2.2.1 HA.out.2.2.2 ?_; intro v5 w5 hr5 hg5 hm5)
          have hB5 : Below W.heap.size W w5 := HG.out.2.2.1.trans (grown_below HG.out.1 hg5 HG.out.2.2.1.size)
          have hm5 := hm w5 hB5
          have HF : Hid (Row W.heap.size w5 v5 (ints (cat LN S k) ++ bs X ls) ∧ Below W.heap.size W w5) := ⟨hr5, hB5⟩
          clear hm hr5 hg5 hB5
          go_wp2_with (go_at_call 10; refine hm5.mono ?_; rintro e w5 ⟨rfl, rfl⟩)
          go_roundg GK
          case measure => exact HK.out.1
          case rel =>
            refine ⟨k + 1, t1, HK.out.2, by go_num, rfl, ?_, HT1.out, HF.out.2, by have := HX.out.2.2.2.1; omega, ?_, ?_⟩
            · have h1 := HF.out.1
              rw [bs_ints, ← ints_app, HX.out.1, HX.out.2.1] at h1
              exact h1
            · have h1 := HG.out.2.2.2.2.1
              have h2 := HX.out.2.2.1
              have e : (cat LN S (k + 1)).length = (cat LN S k).length + ls := by simp only [cat, List.length_append, bl_length]; rw [HX.out.1]
              rw [e]
              omega
            · intro x hx
              rcases List.mem_append.1 (show x ∈ cat LN S k ++ bl (S k) (LN k) from hx) with q | q
              · exact HG.out.2.2.2.2.2 x q
              · rw [← HX.out.1, ← HX.out.2.1] at q
                exact HX.out.2.2.2.2 x q
        · have h2' : (2000 : Int) < (ls : Int) := by omega
          clear hk h h5 h2 hby hbyW hnil hls hX hAk hCk
          go_wp2_with (go_at_call 12; refine (awake_any _).mono ?_; rintro e w5 ⟨rfl, hb5⟩)
          go_ret
          exact ⟨rfl, fin _ _ HG.out.2.2.1 hb5⟩
      · have h5' : (50 : Int) ≤ (k : Int) := by omega
        clear hk h h5 hby hbyW hnil hls hX hAk hCk
        go_wp2_with (go_at_call 12; refine (awake_any _).mono ?_; rintro e w5 ⟨rfl, hb5⟩)
        go_ret
        exact ⟨rfl, fin _ _ HG.out.2.2.1 hb5⟩
    · have h' : (sl : Int) ≤ (k : Int) := by omega
      obtain ⟨ao, cap, hv, q1, q2, q3, q4⟩ := HG.out.1.byt (okb_ints HG.out.2.2.2.2.2)
      rw [ints_length] at hv q1 q2 q4
      have hsm := sum_any ao _ cap _ wr q4 (by omega)
      rw [bl_xof, ← HG.out.2.1] at hsm
      subst hv
      clear hk h q1 q2 q3 q4
      go_wp2_with (first | (go_at_call 8; refine hsm.mono ?_; rintro e w5 ⟨rfl, hw5⟩; obtain rfl := hw5) | (go_at_call 12; refine (awake_any _).mono ?_; rintro e w6 ⟨rfl, hb6⟩))
      go_ret
      exact ⟨rfl, fin _ _ HG.out.2.2.1 hb6⟩
end Go.Proofs.Ytidkibefjcjkfaa
