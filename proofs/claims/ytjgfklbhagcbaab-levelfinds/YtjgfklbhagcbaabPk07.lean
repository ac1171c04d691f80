import Derived.Test.YtjgfklbhagcbaabPk06
/- The library's stable sort of lines of tables: a rotation. -/
namespace Go.Proofs.Ytjgfklbhagcbaab
open Go.Shelf Go.RowKit Go.Lib Go.Sort
set_option linter.unusedVariables false
set_option linter.unusedSimpArgs false
variable {α : Type} [Inhabited α]
set_option maxHeartbeats 4000000 in
set_option maxRecDepth 1000000 in
theorem rot_any {k : Nat} (zE : Fives k) (enc : α → List Value) (g : Nat) (cb : Array Value) (blk off cap a m b : Nat) (d0 d : Array α) (w0 w : World)
    (R : RowK enc k w0 blk off d0) (hs : d0.size = d.size) (S : SWK enc k w0 blk off d w) (ha : a < m) (hb : m < b) (hbd : b ≤ d.size) (hsz : d.size < 4611686018427387904) :
    Calls Try.prog 54 #[.slice (some ⟨blk, off, none⟩) d.size cap, .int .i64 a, .int .i64 m, .int .i64 b, .func (.func g) #[] cb] w fun e w' => e = .returned (.tuple #[]) ∧ ∃ d', Rot d a m b d' ∧ SWK enc k w0 blk off d' w' := by
  have S0 : Aside (SWK enc k w0 blk off d w) := S
  have HR := hidS R
  have HSW := hidS (fun (d : Array α) (w : World) a b n hs S ha hb hsz => swpR_any zE enc g cb blk off cap a b n d0 d w0 w R hs S ha hb hsz)
  clear S R
  go_enter Try.func54, Try.ntmps54
  go_wp2
  go_loopg [10, 11] (b - a) (fun kx s10 s11 wr => ∃ (i j : Nat) (dk : Array α), s10 = .int .i64 i ∧ s11 = .int .i64 j ∧ Aside (0 < i ∧ 0 < j ∧ i ≤ m - a ∧ j ≤ b - m ∧ i + j ≤ kx ∧ dk.size = d.size ∧ SWK enc k w0 blk off dk wr ∧ ∀ d', Rot dk (m - i) m (m + j) d' → Rot d a m b d'))
  case atStart => exact ⟨m - a, b - m, d, by congr 1; omega, by congr 1; omega, by omega, by omega, by omega, by omega, by omega, rfl, S0.out, fun d' r => by rwa [show m - (m - a) = a by omega, show m + (b - m) = b by omega] at r⟩
  case round =>
    clear S0
    obtain ⟨i, j, dk, rfl, rfl, HK⟩ := hrel
    have hds : dk.size = d.size := HK.out.2.2.2.2.2.1
    obtain ⟨hi0, hj0, hi1, hj1, hkx, -, S1, HRt⟩ := HK.out
    have w1 : IntKind.i64.wrap ((m : Int) - (i : Int)) = ((m - i : Nat) : Int) := by rw [IntKind.wrap_i64]; omega
    have w3 : IntKind.i64.wrap ((m : Int) + (j : Int)) = ((m + j : Nat) : Int) := by rw [IntKind.wrap_i64]; omega
    rcases Nat.lt_trichotomy i j with h | h | h
    · have e1 : ¬ (i : Int) = (j : Int) := by omega
      have e2 : ¬ (j : Int) < (i : Int) := by omega
      have hc := HSW.out dk wr (m - i) (m + j - i) i (hs.trans hds.symm) S1 (by omega) (by omega) (by omega)
      rw [hds] at hc
      have c1 : ((m - i : Nat) : Int) = (m : Int) - (i : Int) := by omega
      have c2 : ((m + j - i : Nat) : Int) = (m : Int) + (j : Int) - (i : Int) := by omega
      rw [c1, c2] at hc
      clear w1 w3 c1 c2 S1 HRt
      go_wp2_with (go_at_call 56; refine hc.mono ?_; rintro e w2 ⟨rfl, S2⟩)
      go_roundg (i + (j - i))
      case measure => omega
      case rel => exact ⟨i, j - i, _, rfl, by congr 1; omega, hi0, by omega, hi1, by omega, Nat.le_refl _, by rw [swpR_size, hds], S2, fun d' r => HK.out.2.2.2.2.2.2.2 _ (Rot.less (by omega) h (by omega) r)⟩
    · subst h
      have hc := HSW.out dk wr (m - i) m i (hs.trans hds.symm) S1 (by omega) (by omega) (by omega)
      rw [hds] at hc
      have c1 : ((m - i : Nat) : Int) = (m : Int) - (i : Int) := by omega
      rw [c1] at hc
      clear w1 w3 c1 S1 HRt
      go_wp2_with (go_at_call 56; refine hc.mono ?_; rintro e w2 ⟨rfl, S2⟩)
      go_end0
      exact ⟨rfl, _, HK.out.2.2.2.2.2.2.2 _ (Rot.end (by omega) (by omega)), S2⟩
    · have e1 : ¬ (i : Int) = (j : Int) := by omega
      have e2 : (j : Int) < (i : Int) := by omega
      have hc := HSW.out dk wr (m - i) m j (hs.trans hds.symm) S1 (by omega) (by omega) (by omega)
      rw [hds] at hc
      have c1 : ((m - i : Nat) : Int) = (m : Int) - (i : Int) := by omega
      rw [c1] at hc
      clear w1 w3 c1 S1 HRt
      go_wp2_with (go_at_call 56; refine hc.mono ?_; rintro e w2 ⟨rfl, S2⟩)
      go_roundg (i - j + j)
      case measure => omega
      case rel => exact ⟨i - j, j, _, by congr 1; omega, rfl, by omega, hj0, by omega, hj1, Nat.le_refl _, by rw [swpR_size, hds], S2, fun d' r => HK.out.2.2.2.2.2.2.2 _ (Rot.more (by omega) h (by omega) r)⟩
end Go.Proofs.Ytjgfklbhagcbaab

/- The library's stable sort of lines of tables: the merge. -/
namespace Go.Proofs.Ytjgfklbhagcbaab
open Go.Shelf Go.RowKit Go.Lib Go.Sort
set_option linter.unusedVariables false
set_option linter.unusedSimpArgs false
set_option linter.unusedSectionVars false
variable {α : Type} [Inhabited α]
/-- What a merge owes. -/
def MergedTo (enc : α → List Value) (k : Nat) (cf : α → α → Int) (w0 : World) (blk off : Nat) (d : Array α) (a b : Nat) (w' : World) : Prop :=
  ∃ d', PermIn a b d d' ∧ SortedIn (ltOf cf) a b d' ∧ SWK enc k w0 blk off d' w'
def MergeSay {k : Nat} (enc : α → List Value) (cf : α → α → Int) (g : Nat) (cb : Array Value) (w0 : World) (blk off cap : Nat) (n0 : Nat) (N : Nat) : Prop :=
  ∀ (d : Array α) (w : World) (a m b : Nat), b - a ≤ N → n0 = d.size → SWK enc k w0 blk off d w → a < m → m < b → b ≤ d.size → SortedIn (ltOf cf) a m d → SortedIn (ltOf cf) m b d →
    Calls Try.prog 48 #[.slice (some ⟨blk, off, none⟩) d.size cap, .int .i64 a, .int .i64 m, .int .i64 b, .func (.func g) #[] cb] w fun e w' => e = .returned (.tuple #[]) ∧ MergedTo enc k cf w0 blk off d a b w'
theorem ltOf_t {cf : α → α → Int} {x y : α} (h : cf x y < 0) : ltOf cf x y = true := decide_eq_true h
theorem ltOf_f {cf : α → α → Int} {x y : α} (h : ¬ cf x y < 0) : ltOf cf x y = false := decide_eq_false h
/-- How a shift is told, place by place. -/
def Up (d dk : Array α) (a x : Nat) : Prop := dk.size = d.size ∧ (∀ t, a ≤ t → t < x → dk[t]! = d[t + 1]!) ∧ dk[x]! = d[a]! ∧ (∀ t, t < a ∨ x < t → dk[t]! = d[t]!)
def Down (d dk : Array α) (m x : Nat) : Prop := dk.size = d.size ∧ (∀ t, x < t → t ≤ m → dk[t]! = d[t - 1]!) ∧ dk[x]! = d[m]! ∧ (∀ t, t < x ∨ m < t → dk[t]! = d[t]!)
theorem Up.next {d dk : Array α} {a x : Nat} (h : Up d dk a x) (hax : a ≤ x) (hx : x + 1 < d.size) : Up d (swp dk x (x + 1)) a (x + 1) := by
  obtain ⟨h1, h2, h3, h4⟩ := h
  have g := fun t => swp_get dk (i := x) (j := x + 1) (by omega) (by omega) t
  refine ⟨by rw [swp_size, h1], fun t ht htx => ?_, by rw [g, if_pos rfl, h3], fun t ht => ?_⟩
  · rw [g, if_neg (by omega)]
    by_cases q : t = x
    · rw [if_pos q, h4 _ (by omega), q]
    · rw [if_neg q, h2 t ht (by omega)]
  · rw [g, if_neg (by omega), if_neg (by omega), h4 t (by omega)]
theorem Down.next {d dk : Array α} {m x : Nat} (h : Down d dk m (x + 1)) (hax : x + 1 ≤ m) (hx : m < d.size) : Down d (swp dk (x + 1) x) m x := by
  obtain ⟨h1, h2, h3, h4⟩ := h
  have g := fun t => swp_get dk (i := x + 1) (j := x) (by omega) (by omega) t
  refine ⟨by rw [swp_size, h1], fun t ht htx => ?_, by rw [g, if_pos rfl, h3], fun t ht => ?_⟩
  · rw [g, if_neg (by omega)]
    by_cases q : t = x + 1
    · rw [if_pos q, h4 _ (by omega), q, Nat.add_sub_cancel]
    · rw [if_neg q, h2 t (by omega) htx]
  · rw [g, if_neg (by omega), if_neg (by omega), h4 t (by omega)]
section
variable {k : Nat} {enc : α → List Value} {cf : α → α → Int} {g : Nat} {cb : Array Value} {w0 : World} {blk off cap : Nat} {d0 : Array α}
set_option maxHeartbeats 4000000 in
set_option maxRecDepth 1000000 in
/-- One element on the left. -/
theorem merge_left (zE : Fives k) (R : RowK enc k w0 blk off d0) (eg : ∀ args w, (callFunc g args).run Try.prog w = .ok (.enter g args) w) (hC : CmpLays Try.prog g cb enc k cf blk off d0.size w0) (hS : SWO (ltOf cf)) (hsz : d0.size < 4611686018427387904)
    {d : Array α} {w : World} {a b : Nat} (hs : d0.size = d.size) (S : SWK enc k w0 blk off d w) (hb : a + 1 < b) (hbd : b ≤ d.size) (h2 : SortedIn (ltOf cf) (a + 1) b d) :
    Calls Try.prog 48 #[.slice (some ⟨blk, off, none⟩) d.size cap, .int .i64 a, .int .i64 ((a : Int) + 1), .int .i64 b, .func (.func g) #[] cb] w fun e w' => e = .returned (.tuple #[]) ∧ MergedTo enc k cf w0 blk off d a b w' := by
  unfold Fives at zE
  have aE := aggT
  have mixed := mixedT
  have S0 : Aside (SWK enc k w0 blk off d w) := S
  have HR := hidS R
  have HC := hidS hC
  have H2 := hidS h2
  have HS := hidS hS
  clear S R hC h2 hS
  have e1 : (a : Int) + 1 - (a : Int) = 1 := by omega
  go_enter Try.func48, Try.ntmps48
  go_wp2
  go_loopg [10, 11, 12] (b - (a + 1)) (fun kx s10 s11 _ wr => ∃ (i j : Nat), s10 = .int .i64 i ∧ s11 = .int .i64 j ∧ Aside (a + 1 ≤ i ∧ i ≤ j ∧ j ≤ b ∧ i + kx = j ∧ SWK enc k w0 blk off d wr ∧ (∀ t, a + 1 ≤ t → t < i → ltOf cf d[t]! d[a]! = true) ∧ (∀ t, j ≤ t → t < b → ltOf cf d[t]! d[a]! = false)))
  case atStart => exact ⟨a + 1, b, by simp, rfl, by omega, by omega, by omega, by omega, S0.out, fun t h1 h2 => by omega, fun t h1 h2 => by omega⟩
  case round =>
    clear S0 e1
    obtain ⟨i, j, rfl, rfl, HK⟩ := hrel
    by_cases hlt : i < j
    · have hltz : (i : Int) < (j : Int) := by omega
      obtain ⟨h, hh⟩ : ∃ h, h = (i + j) / 2 := ⟨_, rfl⟩
      have HJ := HK.out
      have hi62 : i ≤ 2 ^ 62 := by omega
      have hj62 : j ≤ 2 ^ 62 := by omega
      have hdiv : ((i : Int) + (j : Int)) / 2 = (h : Int) := by omega
      have HH : Hid (i ≤ h ∧ h < j ∧ h < d.size) := ⟨by omega, by omega, by omega⟩
      have hh62 : h ≤ 2 ^ 62 := by omega
      have ea : ((h : Int)).toNat = h := by omega
      have pa : (0 : Int) ≤ (h : Int) := by omega
      have ba : (h : Int) < (d.size : Int) := by omega
      have ec : ((a : Int)).toNat = a := by omega
      have pc : (0 : Int) ≤ (a : Int) := by omega
      have bc : (a : Int) < (d.size : Int) := by omega
      have rh : IntKind.i64.wrap (h : Int) = (h : Int) := by rw [IntKind.wrap_i64]; omega
      have la := HK.out.2.2.2.2.1.ld HR.out hs.symm Try.prog h (by omega)
      have lc := HK.out.2.2.2.2.1.ld HR.out hs.symm Try.prog a (by omega)
      have hcg := HK.out.2.2.2.2.1.cmp HC.out hs.symm d[h]! d[a]!
      have CLS := hidS (HK.out.2.2.2.2.1.grown)
      have ML : Hid (ltOf cf d[h]! d[a]! = true → ∀ t, a + 1 ≤ t → t < h + 1 → ltOf cf d[t]! d[a]! = true) := fun q t h1 h2' => by
        cases e : ltOf cf d[t]! d[a]! with
        | true => rfl
        | false => have := HS.out.ntrans _ _ _ (srt_le HS.out H2.out (i := t) (j := h) h1 (by omega) (by omega)) e; rw [q] at this; cases this
      have MR : Hid (ltOf cf d[h]! d[a]! = false → ∀ t, h ≤ t → t < b → ltOf cf d[t]! d[a]! = false) := fun q t h1 h2' => HS.out.ntrans _ _ _ (srt_le HS.out H2.out (i := h) (j := t) (by omega) h1 h2') q
      have LT : Hid (cf d[h]! d[a]! < 0 → ltOf cf d[h]! d[a]! = true) := ltOf_t
      have LF : Hid (¬ cf d[h]! d[a]! < 0 → ltOf cf d[h]! d[a]! = false) := ltOf_f
      clear HJ hh
      generalize cf d[h]! d[a]! = c at hcg LT LF
      generalize enc d[h]! = cH at la hcg
      generalize enc d[a]! = cA at lc hcg
      by_cases hlv : c < 0
      · go_wp2_with fail
        go_quiet_grown (first | (go_at_fn g; refine Calls.grown_of (hcg _ _)))
        clear la lc hcg
        go_wp2
        go_roundg (j - (h + 1))
        case measure => have := HK.out; have := HH.out; omega
        case rel => exact ⟨h + 1, j, by simp, rfl, by have := HK.out; have := HH.out; omega, by have := HH.out; omega, HK.out.2.2.1, by have := HH.out; omega, CLS.out _ _, ML.out (LT.out hlv), HK.out.2.2.2.2.2.2⟩
      · go_wp2_with fail
        go_quiet_grown (first | (go_at_fn g; refine Calls.grown_of (hcg _ _)))
        clear la lc hcg
        go_wp2
        go_roundg (h - i)
        case measure => have := HK.out; have := HH.out; omega
        case rel => exact ⟨i, h, rfl, rfl, HK.out.1, HH.out.1, by have := HK.out; have := HH.out; omega, by have := HH.out; omega, CLS.out _ _, HK.out.2.2.2.2.2.1, MR.out (LF.out hlv)⟩
    · have hltz : ¬ (i : Int) < (j : Int) := by omega
      have hij : i = j := by have := HK.out; omega
      subst hij
      have HI : Hid (a + 1 ≤ i ∧ i ≤ b ∧ SWK enc k w0 blk off d wr ∧ (∀ t, a + 1 ≤ t → t < i → ltOf cf d[t]! d[a]! = true) ∧ (∀ t, i ≤ t → t < b → ltOf cf d[t]! d[a]! = false)) := ⟨HK.out.1, HK.out.2.2.1, HK.out.2.2.2.2.1, HK.out.2.2.2.2.2⟩
      have hi0 : 1 ≤ i := by have := HI.out; omega
      clear HK hlt hltz
      obtain ⟨q, rfl⟩ : ∃ q, i = q + 1 := ⟨i - 1, by omega⟩
      have hltz : ¬ ((q : Int) + 1 < (q : Int) + 1) := by omega
      clear hi0
      go_wp2
      go_loopg [13] (q - a) (fun kx s13 wx => ∃ (x : Nat) (dk : Array α), s13 = .int .i64 x ∧ Aside (a ≤ x ∧ x + kx = q ∧ SWK enc k w0 blk off dk wx ∧ PermIn a b d dk ∧ Up d dk a x))
      case atStart => exact ⟨a, d, rfl, Nat.le_refl _, by have := HI.out; omega, HI.out.2.2.1, permIn_refl _ _ _, rfl, fun t h1 h2 => by omega, rfl, fun _ _ => rfl⟩
      case round =>
        obtain ⟨x, dk, rfl, HX⟩ := hrel
        have hi1 := HI.out.1
        have hi2 := HI.out.2.1
        have hx0 := HX.out.1
        have hx1 := HX.out.2.1
        have hds : dk.size = d.size := HX.out.2.2.2.1.1
        have hq62 : q ≤ 2 ^ 62 := by omega
        have hwm : wrap64 ((q : Int) + 1 - 1) = (q : Int) := by unfold wrap64; omega
        by_cases hxl : x < q
        · have hxz : (x : Int) < (q : Int) := by omega
          have ea : ((x : Int)).toNat = x := by omega
          have pa : (0 : Int) ≤ (x : Int) := by omega
          have ba : (x : Int) < (d.size : Int) := by omega
          have ra : IntKind.i64.wrap ((x : Int)) = (x : Int) := by rw [IntKind.wrap_i64]; omega
          have ec : ((x : Int) + 1).toNat = x + 1 := by omega
          have pc : (0 : Int) ≤ (x : Int) + 1 := by omega
          have bc : (x : Int) + 1 < (d.size : Int) := by omega
          have S1 := HX.out.2.2.1
          have S2 : Aside (SWK enc k w0 blk off (swp dk x (x + 1)) ((wr.drew.setCells blk (off + x * k) (enc dk[x + 1]!)).setCells blk (off + (x + 1) * k) (enc dk[x]!))) := S1.swapped HR.out x (x + 1) (by omega) (by omega)
          have la := S1.ld1 HR.out (by omega) Try.prog x (by omega)
          have lb := S1.ld1 HR.out (by omega) Try.prog (x + 1) (by omega)
          have sa := S1.st1 HR.out (by omega) Try.prog x (by omega) dk[x + 1]!
          have sb := S1.st2 HR.out (by omega) Try.prog x (x + 1) (by omega) (by omega) dk[x + 1]! dk[x]!
          have na : (enc dk[x]!).length = k := HR.out.hk _
          have nb : (enc dk[x + 1]!).length = k := HR.out.hk _
          have HN : Hid (PermIn a b d (swp dk x (x + 1)) ∧ Up d (swp dk x (x + 1)) a (x + 1)) := ⟨permIn_trans _ _ _ _ _ HX.out.2.2.2.1 (swp_permIn _ _ _ _ _ (by omega) (by omega) (by omega) (by omega) (by omega)), HX.out.2.2.2.2.next hx0 (by omega)⟩
          generalize enc dk[x]! = cI at S2 la sb na
          generalize enc dk[x + 1]! = cJ at S2 lb sa sb nb
          clear S1 hi1 hi2
          go_wp2_with fail
          apply wp_thenN
          · go_big_region
            exact ⟨rfl, rfl⟩
          clear la lb sa sb
          generalize (wr.drew.setCells blk (off + x * k) cJ).setCells blk (off + (x + 1) * k) cI = w2 at S2 ⊢
          go_wp2
          go_roundg (q - (x + 1))
          case measure => omega
          case rel => exact ⟨x + 1, swp dk x (x + 1), by simp, by omega, by omega, S2.out, HN.out.1, HN.out.2⟩
        · have hxz : ¬ (x : Int) < (q : Int) := by omega
          have hxe : x = q + 1 - 1 := by omega
          have HE : Hid (MergedTo enc k cf w0 blk off d a b wr) := by
            obtain ⟨-, -, q1, q2, q3, q4, q5, q6⟩ := HX.out
            rw [hxe] at q4 q5 q6
            exact ⟨dk, q2, shift_up HS.out H2.out hi1 hi2 HI.out.2.2.2.1 HI.out.2.2.2.2 (fun t h1 h2 => q4 t h1 h2) q5 (fun t h1 => q6 t (.inr (by omega))), q1⟩
          clear HX hds
          go_wp2
          (try simp only [Exit.inBlock, Exit.then]); refine bodyPost_ret (results_none rfl _ _ _) rfl ?_
          exact ⟨rfl, HE.out⟩
end
end Go.Proofs.Ytjgfklbhagcbaab

/- The library's stable sort of lines of tables: the merge with one element on the right. -/
namespace Go.Proofs.Ytjgfklbhagcbaab
open Go.Shelf Go.RowKit Go.Lib Go.Sort
set_option linter.unusedVariables false
set_option linter.unusedSimpArgs false
set_option linter.unusedSectionVars false
variable {α : Type} [Inhabited α]
section
variable {k : Nat} {enc : α → List Value} {cf : α → α → Int} {g : Nat} {cb : Array Value} {w0 : World} {blk off cap : Nat} {d0 : Array α}
set_option maxHeartbeats 4000000 in
set_option maxRecDepth 1000000 in
/-- One element on the right. -/
theorem merge_right (zE : Fives k) (R : RowK enc k w0 blk off d0) (eg : ∀ args w, (callFunc g args).run Try.prog w = .ok (.enter g args) w) (hC : CmpLays Try.prog g cb enc k cf blk off d0.size w0) (hS : SWO (ltOf cf)) (hsz : d0.size < 4611686018427387904)
    {d : Array α} {w : World} {a m : Nat} (hs : d0.size = d.size) (S : SWK enc k w0 blk off d w) (hb : a + 1 < m) (hbd : m + 1 ≤ d.size) (h2 : SortedIn (ltOf cf) a m d) :
    Calls Try.prog 48 #[.slice (some ⟨blk, off, none⟩) d.size cap, .int .i64 a, .int .i64 m, .int .i64 ((m : Int) + 1), .func (.func g) #[] cb] w fun e w' => e = .returned (.tuple #[]) ∧ MergedTo enc k cf w0 blk off d a (m + 1) w' := by
  unfold Fives at zE
  have aE := aggT
  have mixed := mixedT
  have S0 : Aside (SWK enc k w0 blk off d w) := S
  have HR := hidS R
  have HC := hidS hC
  have H2 := hidS h2
  have HS := hidS hS
  clear S R hC h2 hS
  have e0 : ¬ (m : Int) - (a : Int) = 1 := by omega
  have e0b : ((m : Int) - (a : Int) == 1) = false := by simpa using e0
  have e1 : (m : Int) + 1 - (m : Int) = 1 := by omega
  go_enter Try.func48, Try.ntmps48
  go_wp2
  go_loopg [14, 15, 16] (m - a) (fun kx s14 s15 _ wr => ∃ (i j : Nat), s14 = .int .i64 i ∧ s15 = .int .i64 j ∧ Aside (a ≤ i ∧ i ≤ j ∧ j ≤ m ∧ i + kx = j ∧ SWK enc k w0 blk off d wr ∧ (∀ t, a ≤ t → t < i → ltOf cf d[m]! d[t]! = false) ∧ (∀ t, j ≤ t → t < m → ltOf cf d[m]! d[t]! = true)))
  case atStart => exact ⟨a, m, rfl, rfl, by omega, by omega, by omega, by omega, S0.out, fun t h1 h2 => by omega, fun t h1 h2 => by omega⟩
  case round =>
    clear S0 e1 e0 e0b
    obtain ⟨i, j, rfl, rfl, HK⟩ := hrel
    by_cases hlt : i < j
    · have hltz : (i : Int) < (j : Int) := by omega
      obtain ⟨h, hh⟩ : ∃ h, h = (i + j) / 2 := ⟨_, rfl⟩
      have HJ := HK.out
      have hi62 : i ≤ 2 ^ 62 := by omega
      have hj62 : j ≤ 2 ^ 62 := by omega
      have hdiv : ((i : Int) + (j : Int)) / 2 = (h : Int) := by omega
      have HH : Hid (i ≤ h ∧ h < j ∧ h < d.size) := ⟨by omega, by omega, by omega⟩
      have hh62 : h ≤ 2 ^ 62 := by omega
      have ea : ((h : Int)).toNat = h := by omega
      have pa : (0 : Int) ≤ (h : Int) := by omega
      have ba : (h : Int) < (d.size : Int) := by omega
      have ec : ((m : Int)).toNat = m := by omega
      have pc : (0 : Int) ≤ (m : Int) := by omega
      have bc : (m : Int) < (d.size : Int) := by omega
      have rh : IntKind.i64.wrap (h : Int) = (h : Int) := by rw [IntKind.wrap_i64]; omega
      have la := HK.out.2.2.2.2.1.ld HR.out hs.symm Try.prog h (by omega)
      have lc := HK.out.2.2.2.2.1.ld HR.out hs.symm Try.prog m (by omega)
      have hcg := HK.out.2.2.2.2.1.cmp HC.out hs.symm d[m]! d[h]!
      have CLS := hidS (HK.out.2.2.2.2.1.grown)
      have ML : Hid (ltOf cf d[m]! d[h]! = false → ∀ t, a ≤ t → t < h + 1 → ltOf cf d[m]! d[t]! = false) := fun q t h1 h2' => HS.out.ntrans _ _ _ q (srt_le HS.out H2.out (i := t) (j := h) h1 (by omega) (by omega))
      have MR : Hid (ltOf cf d[m]! d[h]! = true → ∀ t, h ≤ t → t < m → ltOf cf d[m]! d[t]! = true) := fun q t h1 h2' => swo_lt_le HS.out q (srt_le HS.out H2.out (i := h) (j := t) (by omega) h1 h2')
      have LT : Hid (cf d[m]! d[h]! < 0 → ltOf cf d[m]! d[h]! = true) := ltOf_t
      have LF : Hid (¬ cf d[m]! d[h]! < 0 → ltOf cf d[m]! d[h]! = false) := ltOf_f
      clear HJ hh
      generalize cf d[m]! d[h]! = c at hcg LT LF
      generalize enc d[h]! = cH at la hcg
      generalize enc d[m]! = cA at lc hcg
      by_cases hlv : c < 0
      · have hln : (!decide (c < 0)) = false := by simp [hlv]
        go_wp2_with fail
        go_quiet_grown (first | (go_at_fn g; refine Calls.grown_of (hcg _ _)))
        clear la lc hcg
        go_wp2
        go_roundg (h - i)
        case measure => have := HK.out; have := HH.out; omega
        case rel => exact ⟨i, h, rfl, rfl, HK.out.1, HH.out.1, by have := HK.out; have := HH.out; omega, by have := HH.out; omega, CLS.out _ _, HK.out.2.2.2.2.2.1, MR.out (LT.out hlv)⟩
      · have hln : (!decide (c < 0)) = true := by simp [hlv]
        go_wp2_with fail
        go_quiet_grown (first | (go_at_fn g; refine Calls.grown_of (hcg _ _)))
        clear la lc hcg
        go_wp2
        go_roundg (j - (h + 1))
        case measure => have := HK.out; have := HH.out; omega
        case rel => exact ⟨h + 1, j, by simp, rfl, by have := HK.out; have := HH.out; omega, by have := HH.out; omega, HK.out.2.2.1, by have := HH.out; omega, CLS.out _ _, ML.out (LF.out hlv), HK.out.2.2.2.2.2.2⟩
    · have hltz : ¬ (i : Int) < (j : Int) := by omega
      have hij : i = j := by have := HK.out; omega
      subst hij
      have HI : Hid (a ≤ i ∧ i ≤ m ∧ SWK enc k w0 blk off d wr ∧ (∀ t, a ≤ t → t < i → ltOf cf d[m]! d[t]! = false) ∧ (∀ t, i ≤ t → t < m → ltOf cf d[m]! d[t]! = true)) := ⟨HK.out.1, HK.out.2.2.1, HK.out.2.2.2.2.1, HK.out.2.2.2.2.2⟩
      clear HK hlt
      go_wp2
      go_loopg [17] (m - i) (fun kx s17 wx => ∃ (x : Nat) (dk : Array α), s17 = .int .i64 x ∧ Aside (i + kx = x ∧ x ≤ m ∧ SWK enc k w0 blk off dk wx ∧ PermIn a (m + 1) d dk ∧ Down d dk m x))
      case atStart => exact ⟨m, d, rfl, by have := HI.out; omega, Nat.le_refl _, HI.out.2.2.1, permIn_refl _ _ _, rfl, fun t h1 h2 => by omega, rfl, fun _ _ => rfl⟩
      case round =>
        obtain ⟨x, dk, rfl, HX⟩ := hrel
        have hi1 := HI.out.1
        have hi2 := HI.out.2.1
        have hx0 := HX.out.1
        have hx1 := HX.out.2.1
        have hds : dk.size = d.size := HX.out.2.2.2.1.1
        by_cases hxl : i < x
        · obtain ⟨p, rfl⟩ : ∃ p, x = p + 1 := ⟨x - 1, by omega⟩
          have hxz : (i : Int) < (p : Int) + 1 := by omega
          have ea : ((p : Int) + 1).toNat = p + 1 := by omega
          have pa : (0 : Int) ≤ (p : Int) + 1 := by omega
          have ba : (p : Int) + 1 < (d.size : Int) := by omega
          have ec : ((p : Int)).toNat = p := by omega
          have pc : (0 : Int) ≤ (p : Int) := by omega
          have bc : (p : Int) < (d.size : Int) := by omega
          have rc : IntKind.i64.wrap (p : Int) = (p : Int) := by rw [IntKind.wrap_i64]; omega
          have S1 := HX.out.2.2.1
          have S2 : Aside (SWK enc k w0 blk off (swp dk (p + 1) p) ((wr.drew.setCells blk (off + (p + 1) * k) (enc dk[p]!)).setCells blk (off + p * k) (enc dk[p + 1]!))) := S1.swapped HR.out (p + 1) p (by omega) (by omega)
          have la := S1.ld1 HR.out (by omega) Try.prog (p + 1) (by omega)
          have lb := S1.ld1 HR.out (by omega) Try.prog p (by omega)
          have sa := S1.st1 HR.out (by omega) Try.prog (p + 1) (by omega) dk[p]!
          have sb := S1.st2 HR.out (by omega) Try.prog (p + 1) p (by omega) (by omega) dk[p]! dk[p + 1]!
          have na : (enc dk[p + 1]!).length = k := HR.out.hk _
          have nb : (enc dk[p]!).length = k := HR.out.hk _
          have HN : Hid (PermIn a (m + 1) d (swp dk (p + 1) p) ∧ Down d (swp dk (p + 1) p) m p ∧ i + (p - i) = p ∧ p ≤ m ∧ p - i < gk) := ⟨permIn_trans _ _ _ _ _ HX.out.2.2.2.1 (swp_permIn _ _ _ _ _ (by omega) (by omega) (by omega) (by omega) (by omega)), HX.out.2.2.2.2.next hx1 (by omega), by omega, by omega, by omega⟩
          generalize enc dk[p + 1]! = cI at S2 la sb na
          generalize enc dk[p]! = cJ at S2 lb sa sb nb
          clear S1 hi1 hi2 hx0 HX
          go_wp2_with fail
          apply wp_thenN
          · go_big_region
            exact ⟨rfl, rfl⟩
          clear la lb sa sb
          generalize (wr.drew.setCells blk (off + (p + 1) * k) cJ).setCells blk (off + p * k) cI = w2 at S2 ⊢
          go_wp2
          go_roundg (p - i)
          case measure => exact HN.out.2.2.2.2
          case rel => exact ⟨p, swp dk (p + 1) p, by simp, HN.out.2.2.1, HN.out.2.2.2.1, S2.out, HN.out.1, HN.out.2.1⟩
        · have hxz : ¬ (i : Int) < (x : Int) := by omega
          have hxe : x = i := by omega
          have HE : Hid (MergedTo enc k cf w0 blk off d a (m + 1) wr) := by
            obtain ⟨-, -, q1, q2, q3, q4, q5, q6⟩ := HX.out
            rw [hxe] at q4 q5 q6
            exact ⟨dk, q2, shift_down HS.out H2.out hi1 hi2 HI.out.2.2.2.1 HI.out.2.2.2.2 (fun t h1 => q6 t (.inl h1)) q5 (fun t h1 h2 => q4 t h1 h2), q1⟩
          clear HX hds hx0 hxe
          go_wp2
          (try simp only [Exit.inBlock, Exit.then]); refine bodyPost_ret (results_none rfl _ _ _) rfl ?_
          exact ⟨rfl, HE.out⟩
end
end Go.Proofs.Ytjgfklbhagcbaab
