/- Changes and entries in memory; a batch as a value. -/
import Derived.Test.YtcielnkkbccldaaBat
import Derived.Test.YtcielnkkbccldaaStrc
namespace Go.Proofs.Ytcielnkkbccldaa
open Go.RowKit
set_option linter.unusedVariables false
set_option linter.unusedSimpArgs false

theorem cell_of {w : World} {p : Nat} {C : Array Value} {t : TypeId} {f : Nat × Nat} (h : w.heap[p]? = some (.cells C t f)) (k : Nat) : w.cell? ⟨p, k, none⟩ = C[k]? := by
  simp [World.cell?, h]
theorem cell_below {B : Nat} {w w' : World} {p k : Nat} {v : Value} (h : Below B w w') (hp : p < B) (hc : w.cell? ⟨p, k, none⟩ = some v) : w'.cell? ⟨p, k, none⟩ = some v := (h.cell (p := ⟨p, k, none⟩) hp).trans hc
def In64 (n : Int) : Prop := -9223372036854775808 ≤ n ∧ n ≤ 9223372036854775807
/-- A change in four cells. -/
def OpM (w : World) (vs : List Value) (o : OpV) : Prop :=
  ∃ ka kc va vc, vs = [.slice ka o.key.length kc, .bool o.gone, .int .i64 o.till, .slice va o.val.length vc] ∧ Sl w ka o.key.length kc o.key ∧ Sl w va o.val.length vc o.val ∧ In64 o.till
def opE : El OpV where
  ty := 42
  size := 4
  M := OpM
  len := fun h => by obtain ⟨ka, kc, va, vc, rfl, _⟩ := h; rfl
  one := fun h v hv => by
    obtain ⟨ka, kc, va, vc, rfl, _⟩ := h
    simp only [List.mem_cons, List.not_mem_nil, or_false] at hv
    rcases hv with rfl | rfl | rfl | rfl <;> rfl
  lt := fun h v hv b hr => by
    obtain ⟨ka, kc, va, vc, rfl, h1, h2, _⟩ := h
    simp only [List.mem_cons, List.not_mem_nil, or_false] at hv
    rcases hv with rfl | rfl | rfl | rfl
    · exact h1.lt hr
    · exact (refs_bool hr).elim
    · exact (refs_int hr).elim
    · exact h2.lt hr
  keep := fun h hk => by
    obtain ⟨ka, kc, va, vc, rfl, h1, h2, h3⟩ := h
    exact ⟨ka, kc, va, vc, rfl, h1.keep fun b hr => hk _ (by simp) b hr, h2.keep fun b hr => hk _ (by simp) b hr, h3⟩
theorem opE_info : (Try.prog.info? opE.ty).map (fun i => (i.zero, i.size, i.bytes)) = some (some (.agg #[.slice none 0 0, .bool false, .int .i64 0, .slice none 0 0]), opE.size, 64) := by kernel_rfl
/-- The cells of a change of a row. -/
theorem RS.op {w : World} {ao : Option Addr} {len cap : Nat} {os : List OpV} (h : RS opE w ao len cap os) {i : Nat} {o : OpV} (hx : os[i]? = some o) :
    ∃ b off ka kc va vc, ao = some ⟨b, off, none⟩ ∧ w.cell? ⟨b, off + i * 4, none⟩ = some (.slice ka o.key.length kc) ∧ w.cell? ⟨b, off + i * 4 + 1, none⟩ = some (.bool o.gone) ∧ w.cell? ⟨b, off + i * 4 + 2, none⟩ = some (.int .i64 o.till) ∧ w.cell? ⟨b, off + i * 4 + 3, none⟩ = some (.slice va o.val.length vc) ∧
      Sl w ka o.key.length kc o.key ∧ Sl w va o.val.length vc o.val ∧ In64 o.till := by
  obtain ⟨b, off, vs, e, ⟨ka, kc, va, vc, rfl, h1, h2, h3⟩, hc⟩ := RS.at h (by decide) hx
  refine ⟨b, off, ka, kc, va, vc, e, ?_, ?_, ?_, ?_, h1, h2, h3⟩
  · exact hc 0 _ rfl
  · exact hc 1 _ rfl
  · exact hc 2 _ rfl
  · exact hc 3 _ rfl
theorem RS.len {α : Type} {E : El α} {w : World} {ao : Option Addr} {len cap : Nat} {xs : List α} (h : RS E w ao len cap xs) : xs.length = len ∧ len ≤ cap ∧ cap ≤ maxLen := by
  obtain ⟨us, h1, h2, h3, h4, _⟩ := h
  exact ⟨h1, h3, h4⟩
theorem mayO_drop {os : List OpV} {k : Nat} {o : OpV} (h : os[k]? = some o) : mayO (os.drop k) = if may1 o ≠ 0 then may1 o else mayO (os.drop (k + 1)) := by
  obtain ⟨hk, rfl⟩ := List.getElem?_eq_some_iff.1 h
  rw [List.drop_eq_getElem_cons hk, mayO]

set_option maxHeartbeats 4000000 in
set_option maxRecDepth 100000 in
theorem rmay_any {w : World} {ao : Option Addr} {len cap : Nat} {s : Int} {os : List OpV} (h : RS opE w ao len cap os) (hs : In64 s) :
    Calls Try.prog 15 #[.agg #[.int .i64 s, .slice ao len cap]] w fun e w' => e = .returned (.int .i64 (mayB s os : Nat)) ∧ Below w.heap.size w w' := by
  have hl := h.len
  have hl63 : len ≤ 2 ^ 63 - 1 := by have := hl.2; unfold maxLen at this; omega
  have HB : Hid (Below w.heap.size w (w.alloc (.cells #[.int .i64 s, .slice ao len cap] 24))) := (Below.refl _ w).alloc (Nat.le_refl _) _
  by_cases q1 : len < 1
  · have hR : mayB s os = 13 := by unfold mayB; rw [if_pos (by omega)]
    rw [hR]
    have c1 : (len : Int) < 1 := by omega
    clear h hl hR q1 hs
    go_enter Try.func15, Try.ntmps15
    go_wp2_with fail
    exact bodyPost_ret (v := .int .i64 13) (by simp [results, Try.results15, go_sem]) rfl ⟨rfl, HB.out⟩
  by_cases q2 : 400 < len
  · have hR : mayB s os = 13 := by unfold mayB; rw [if_pos (by omega)]
    rw [hR]
    have c1 : ¬ (len : Int) < 1 := by omega
    have c2 : (400 : Int) < (len : Int) := by omega
    clear h hl hR q1 hs q2
    go_enter Try.func15, Try.ntmps15
    go_wp2_with fail
    exact bodyPost_ret (v := .int .i64 13) (by simp [results, Try.results15, go_sem]) rfl ⟨rfl, HB.out⟩
  have c1 : ¬ (len : Int) < 1 := by omega
  have c2 : (len : Int) ≤ 400 := by omega
  have hl400 : len ≤ 400 := by omega
  have hR0 : mayB s os = if s < 1 ∨ 4611686018427387904 - ((os.length : Int) - 1) < s then 1 else mayO os := by unfold mayB; rw [if_neg (by omega)]
  rw [hl.1] at hR0
  by_cases q3 : s < 1
  · rw [hR0, if_pos (.inl q3)]
    clear h hl q1 hs q2 hR0 hl63
    go_enter Try.func15, Try.ntmps15
    go_wp2_with fail
    exact bodyPost_ret (v := .int .i64 1) (by simp [results, Try.results15, go_sem]) rfl ⟨rfl, HB.out⟩
  by_cases q4 : 4611686018427387904 - ((len : Int) - 1) < s
  · rw [hR0, if_pos (.inr q4)]
    have hw1 : wrap64 ((len : Int) - 1) = (len : Int) - 1 := by unfold wrap64; omega
    have hw2 : wrap64 (4611686018427387904 - ((len : Int) - 1)) = 4611686018427387904 - ((len : Int) - 1) := by unfold wrap64; omega
    clear h hl q1 hs q2 hR0 hl63
    go_enter Try.func15, Try.ntmps15
    go_wp2_with fail
    exact bodyPost_ret (v := .int .i64 1) (by simp [results, Try.results15, go_sem]) rfl ⟨rfl, HB.out⟩
  rw [hR0, if_neg (by omega)]
  have HS : Hid (RS opE w ao len cap os) := h
  obtain ⟨T, hT⟩ : ∃ T, T = mayO os := ⟨_, rfl⟩
  rw [← hT]
  have H0 : Hid (mayO (os.drop 0) = T) := hT.symm
  have hln := hl.1
  have q4' : ¬ 4611686018427387904 - ((len : Int) - 1) < s := q4
  have hw1 : wrap64 ((len : Int) - 1) = (len : Int) - 1 := by unfold wrap64; omega
  have hw2 : wrap64 (4611686018427387904 - ((len : Int) - 1)) = 4611686018427387904 - ((len : Int) - 1) := by unfold wrap64; omega
  clear h hl q1 hs q2 hR0 hl63 hT
  go_enter Try.func15, Try.ntmps15
  go_wp2_with fail
  clear hw1 hw2 q3 q4 q4' c1 c2
  go_loopg [4, 31] len (fun g _ i wr => ∃ k : Nat, k + g = len ∧ i = .int .i64 (k : Int) ∧ Hid (Below w.heap.size w wr ∧ mayO (os.drop k) = T))
  case atStart => exact ⟨0, by omega, rfl, HB.out, H0.out⟩
  case round =>
    obtain ⟨k, hk, rfl, HK⟩ := hrel
    by_cases hkl : k < len
    · have hkl' : (k : Int) < (len : Int) := by omega
      have hko : k < os.length := by omega
      have hox := List.getElem?_eq_getElem hko
      obtain ⟨b, off, ka, kc, va, vc, rfl, d0, d1, d2, d3, k1, k2, k3⟩ := RS.op (HS.out.later HK.out.1) hox
      have hm := mayO_drop hox
      rw [HK.out.2] at hm
      generalize os[k] = o at d0 d1 d2 d3 k1 k2 k3 hm
      have hkey63 : o.key.length ≤ 2 ^ 63 - 1 := by have := k1.2.2.2; unfold maxLen at this; omega
      have hval63 : o.val.length ≤ 2 ^ 63 - 1 := by have := k2.2.2.2; unfold maxLen at this; omega
      obtain ⟨key, gone, till, vl⟩ := o
      simp only at d0 d1 d2 d3 hkey63 hval63 k3
      obtain ⟨m, hmm⟩ : ∃ m, m = may1 ⟨key, gone, till, vl⟩ := ⟨_, rfl⟩
      rw [← hmm] at hm
      unfold may1 at hmm
      simp only at hmm
      have HW : Hid (Below w.heap.size w (wr.alloc (.cells #[.slice ka key.length kc, .bool gone, .int .i64 till, .slice va vl.length vc] 42))) := HK.out.1.alloc HK.out.1.size _
      have hk62 : k ≤ 2 ^ 62 := by omega
      obtain ⟨GK, HG⟩ : ∃ g, Hid (g < gk ∧ k + 1 + g = len) := ⟨gk - 1, by omega, by omega⟩
      have HN : Hid (mayO (os.drop (k + 1)) = T → Below w.heap.size w (wr.alloc (.cells #[.slice ka key.length kc, .bool gone, .int .i64 till, .slice va vl.length vc] 42)) ∧ mayO (os.drop (k + 1)) = T) := fun e => ⟨HW.out, e⟩
      generalize key.length = kl at d0 hmm hkey63 HW HN
      generalize vl.length = ln at d3 hmm hval63 HW HN
      clear k1 k2 hk HK hox
      have HM : Hid (T = if m ≠ 0 then m else mayO (os.drop (k + 1))) := hm
      clear hm
      by_cases qA : kl = 0
      · subst qA
        rw [if_pos (.inl rfl)] at hmm
        subst hmm
        obtain rfl : T = 1 := by simpa using HM.out
        go_wp2_with fail
        exact bodyPost_ret (v := .int .i64 1) (by simp [results, Try.results15, go_sem]) rfl ⟨rfl, HW.out⟩
      have eA : ((kl : Int) == 0) = false := by simp; omega
      by_cases qB : till < 0
      · rw [if_pos (.inr (.inl qB))] at hmm
        subst hmm
        obtain rfl : T = 1 := by simpa using HM.out
        go_wp2_with fail
        exact bodyPost_ret (v := .int .i64 1) (by simp [results, Try.results15, go_sem]) rfl ⟨rfl, HW.out⟩
      by_cases qC : 4611686018427387904 < till
      · rw [if_pos (.inr (.inr (.inl qC)))] at hmm
        subst hmm
        obtain rfl : T = 1 := by simpa using HM.out
        have qB' : 0 ≤ till := by omega
        go_wp2_with fail
        exact bodyPost_ret (v := .int .i64 1) (by simp [results, Try.results15, go_sem]) rfl ⟨rfl, HW.out⟩
      have qB' : 0 ≤ till := by omega
      have qC' : till ≤ 4611686018427387904 := by omega
      cases gone with
      | true =>
        by_cases qD : till = 0
        · subst qD
          by_cases qE : 0 < ln
          · rw [if_pos (.inr (.inr (.inr ⟨rfl, .inr qE⟩)))] at hmm
            subst hmm
            obtain rfl : T = 1 := by simpa using HM.out
            have qE' : (0 : Int) < (ln : Int) := by omega
            go_wp2_with fail
            exact bodyPost_ret (v := .int .i64 1) (by simp [results, Try.results15, go_sem]) rfl ⟨rfl, HW.out⟩
          · obtain rfl : ln = 0 := by omega
            rw [if_neg (by rintro (q | q | q | ⟨_, q | q⟩) <;> omega)] at hmm
            by_cases qF : 512 < kl
            · rw [if_pos (.inl qF)] at hmm
              subst hmm
              obtain rfl : T = 2 := by simpa using HM.out
              have qF' : (512 : Int) < (kl : Int) := by omega
              go_wp2_with fail
              exact bodyPost_ret (v := .int .i64 2) (by simp [results, Try.results15, go_sem]) rfl ⟨rfl, HW.out⟩
            · rw [if_neg (by omega)] at hmm
              subst hmm
              have HM2 : Hid (mayO (os.drop (k + 1)) = T) := by have := HM.out; rw [if_neg (by simp)] at this; exact this.symm
              clear HM
              have qF' : (kl : Int) ≤ 512 := by omega
              go_wp2_with fail
              go_roundg GK
              case measure => exact HG.out.1
              case rel => exact ⟨k + 1, HG.out.2, by go_num, HN.out HM2.out⟩
        · rw [if_pos (.inr (.inr (.inr ⟨rfl, .inl qD⟩)))] at hmm
          subst hmm
          obtain rfl : T = 1 := by simpa using HM.out
          have qD' : (till != 0) = true := by simp; omega
          go_wp2_with fail
          exact bodyPost_ret (v := .int .i64 1) (by simp [results, Try.results15, go_sem]) rfl ⟨rfl, HW.out⟩
      | false =>
        rw [if_neg (by rintro (q | q | q | ⟨q, _⟩); omega; omega; omega; cases q)] at hmm
        by_cases qF : 512 < kl
        · rw [if_pos (.inl qF)] at hmm
          subst hmm
          obtain rfl : T = 2 := by simpa using HM.out
          have qF' : (512 : Int) < (kl : Int) := by omega
          go_wp2_with fail
          exact bodyPost_ret (v := .int .i64 2) (by simp [results, Try.results15, go_sem]) rfl ⟨rfl, HW.out⟩
        · have qF' : (kl : Int) ≤ 512 := by omega
          by_cases qG : 2048 < ln
          · rw [if_pos (.inr qG)] at hmm
            subst hmm
            obtain rfl : T = 2 := by simpa using HM.out
            have qG' : (2048 : Int) < (ln : Int) := by omega
            go_wp2_with fail
            exact bodyPost_ret (v := .int .i64 2) (by simp [results, Try.results15, go_sem]) rfl ⟨rfl, HW.out⟩
          · have qG' : (ln : Int) ≤ 2048 := by omega
            rw [if_neg (by omega)] at hmm
            subst hmm
            have HM2 : Hid (mayO (os.drop (k + 1)) = T) := by have := HM.out; rw [if_neg (by simp)] at this; exact this.symm
            clear HM
            go_wp2_with fail
            go_roundg GK
            case measure => exact HG.out.1
            case rel => exact ⟨k + 1, HG.out.2, by go_num, HN.out HM2.out⟩
    · have hkl' : (len : Int) ≤ (k : Int) := by omega
      have hT : T = 0 := by rw [← HK.out.2, List.drop_eq_nil_of_le (by omega)]; rfl
      subst hT
      have HW : Hid (Below w.heap.size w wr) := HK.out.1
      clear hk HK
      go_wp2_with fail
      exact bodyPost_ret (v := .int .i64 0) (by simp [results, Try.results15, go_sem]) rfl ⟨rfl, HW.out⟩
end Go.Proofs.Ytcielnkkbccldaa
