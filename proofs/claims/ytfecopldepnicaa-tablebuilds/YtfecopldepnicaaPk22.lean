import Derived.Test.YtfecopldepnicaaPk12
import Derived.Test.YtfecopldepnicaaPk16
import Derived.Test.YtfecopldepnicaaPk17
import Derived.Test.YtfecopldepnicaaPk18
import Derived.Test.YtfecopldepnicaaPk20
import Derived.Test.YtfecopldepnicaaPk21
/- The document's own tables: bytes with their sum; is it theirs; a part of bytes. -/
namespace Go.Proofs.Ytfecopldepnicaa
open Go.RowKit
set_option linter.unusedVariables false
set_option linter.unusedSimpArgs false

theorem fxs4t (n : Nat) : fxs n 4 = fx n 4 := by unfold fxs; rw [if_pos (by unfold InSize; decide)]; rfl
set_option maxHeartbeats 1000000 in
set_option maxRecDepth 100000 in
theorem rsmd_any {w : World} {ao : Option Addr} {len cap : Nat} {xs : List Int} (h : Sl w ao len cap xs) (hl : len ≤ 1099511627776) :
    Calls Try.prog 41 #[.slice ao len cap] w fun e w' => ∃ v, e = .returned v ∧ Row w.heap.size w' v (sm xs) ∧ Below w.heap.size w w' := by
  have HS : Hid (Sl w ao len cap xs ∧ xs.length = len ∧ len ≤ 1099511627776) := ⟨h, h.1, hl⟩
  have hml : more 0 (nl xs) < 4294967296 := more_lt (by decide) (fun x hx => by
    obtain ⟨y, hy, rfl⟩ := List.mem_map.1 hx
    have := h.2.1 y hy
    omega)
  have HE : Hid (sm xs = xs ++ fx (mask (more 0 (nl xs))) 4) := rfl
  have HSU : Hid (∀ wx, Below w.heap.size w wx → Calls Try.prog 72 #[.slice ao len cap] wx fun e w' => e = .returned (.int .u32 (more 0 (nl xs) : Nat)) ∧ w' = wx) := fun wx hb => rsum_l (h.later hb)
  have HMA : Hid (∀ wx, Calls Try.prog 71 #[.int .u32 (more 0 (nl xs) : Nat)] wx fun e w' => e = .returned (.int .u32 (mask (more 0 (nl xs)) : Nat)) ∧ w' = wx) := fun wx => rmask_any _ wx hml
  have hmk := mask_lt (more 0 (nl xs))
  generalize mask (more 0 (nl xs)) = M at HE HMA hmk
  generalize more 0 (nl xs) = N at HSU HMA
  have hM62 : M ≤ 2 ^ 61 := by omega
  clear h hl hml hmk
  go_enter Try.func41, Try.ntmps41
  go_wp2_with (first | (at_builtin; refine wpList_applN (B := w.heap.size) (xs := []) (ys := xs) (ao := ao) (m := len) (c := cap) rfl (.const (.slice none 0 0)) (.tmp 3) rfl rfl (Row.nil _ _) rfl HS.out.1 (by have := HS.out; simp; omega) (Nat.le_refl _) ?_; intro v4 w4 r4 g4 m4; have b4 := grown_below (Row.nil w.heap.size w) g4 (Nat.le_refl _)) | (go_at_call 72; refine (HSU.out _ b4).mono ?_; rintro e w5 ⟨rfl, hw⟩; obtain rfl := hw.symm) | (go_at_call 71; refine (HMA.out _).mono ?_; rintro e w5 ⟨rfl, hw⟩; obtain rfl := hw.symm) | (go_at_call 42; refine (rfixed_any w.heap.size v4 ([] ++ xs) M 4 w4 r4 b4.size (by have := HS.out; simp; omega)).mono ?_; rintro e w6 ⟨v6, rfl, r6, g6, m6⟩))
  rw [fxs4t, List.nil_append] at r6
  exact bodyPost_ret (v := v6) (by simp [results, Try.results41, go_sem]) rfl ⟨v6, rfl, by rw [HE.out]; exact r6, b4.trans (grown_below r4 g6 b4.size)⟩

theorem run_cutK (kl kh : IntKind) (ao : Option Addr) (len cap i j : Nat) (h1 : i ≤ j) (h2 : j ≤ cap) : ∀ w, (Instr.slice 25 (.slice ao len cap) (some (.int kl (i : Int))) (some (.int kh (j : Int))) none).run Try.prog w = .ok (.slice (cutA ao cap i) (j - i) (cap - i)) w := fun w => by
  rw [run_slice_lh (P := Try.prog) (w := w) 25 ao len cap under25 kl kh (i : Int) (j : Int) (by omega) (by omega) (by omega), elem25, Try.sizeOf5]
  simp only [Result.andThen, Int.toNat_natCast]
  rw [sliced_cut _ _ _ _ (by omega)]
theorem Rests.midT {ao : Option Addr} {len cap : Nat} {d : List Int} (i j : Nat) (hi : i ≤ j) (hj : j ≤ len) (hd : d.length = len) : Rests ao len cap d (.slice (cutA ao cap i) (j - i) (cap - i)) ((d.drop i).take (j - i)) := fun w h => by
  have e : ((d.drop i).take (j - i)).length = j - i := by rw [List.length_take, List.length_drop, hd]; omega
  exact ⟨_, _, by rw [e], by rw [e]; exact h.cut i j hi hj⟩
/-- What part answers. -/
def PrtR (ao : Option Addr) (len cap : Nat) (b : List Int) (g : Option (List Int)) (n : Nat) (e : Ending) : Prop :=
  (g = none ∧ e = .returned (.tuple #[.slice none 0 0, .bool false])) ∨ ∃ x a c, g = some x ∧ x.length = n ∧ e = .returned (.tuple #[.slice a n c, .bool true]) ∧ Rests ao len cap b (.slice a n c) x
end Go.Proofs.Ytfecopldepnicaa

/- The document's own Ordered, of rows in order. -/
namespace Go.Proofs.Ytfecopldepnicaa
open Go.RowKit
set_option linter.unusedVariables false
set_option linter.unusedSimpArgs false

set_option maxHeartbeats 4000000 in
set_option maxRecDepth 100000 in
theorem rordE_any {w : World} {ao : Option Addr} {len cap : Nat} {l : List EntV} (h : RS entE w ao len cap l) (hl : len ≤ 1000000) (ho : ordE l) :
    Calls Try.prog 36 #[.slice ao len cap] w fun r w' => r = .returned (.bool true) ∧ Below w.heap.size w w' := by
  have HS : Hid (RS entE w ao len cap l ∧ ordE l ∧ len ≤ 1000000) := ⟨h, ho, hl⟩
  have hln : l.length = len := h.len.1
  have hl62 : len ≤ 2 ^ 61 := by omega
  clear h hl ho
  go_enter Try.func36, Try.ntmps36
  go_wp2_with fail
  go_loopg [3] len (fun g i wr => ∃ k : Nat, (k + g = len ∨ (k = 0 ∧ g = len)) ∧ i = .int .i64 ((k + 1 : Nat) : Int) ∧ Hid (Below w.heap.size w wr))
  case atStart => exact ⟨0, .inr ⟨rfl, rfl⟩, rfl, Below.refl _ _⟩
  case round =>
    obtain ⟨k, hk, rfl, HK⟩ := hrel
    by_cases hkl : k + 1 < len
    · have hkl' : (k : Int) + 1 < (len : Int) := by omega
      have hdl : decide ((k : Int) + 1 < (len : Int)) = true := by simpa using hkl'
      have hx1 : k < l.length := by omega
      have hx2 : k + 1 < l.length := by omega
      obtain ⟨b, off, ka, kc, va, vc, hab, d0, d1, d2, d3, d4, s1, s2, i1, i2⟩ := RS.ent (HS.out.1.later HK.out) (List.getElem?_eq_getElem hx1)
      obtain ⟨b', off', kb, kd, vb, vd, hab', e0, e1, e2, e3, e4, t1, t2, j1, j2⟩ := RS.ent (HS.out.1.later HK.out) (List.getElem?_eq_getElem hx2)
      rw [hab] at hab'
      simp only [Option.some.injEq, Addr.mk.injEq, and_true] at hab'
      obtain ⟨rfl, rfl⟩ := hab'
      subst hab
      have hah : ahead l[k] l[k + 1] < 0 := List.pairwise_iff_getElem.1 HS.out.2.1 _ _ hx1 hx2 (by omega)
      have hA := rahead_any (va := va) (vc := vc) (vb := vb) (vd := vd) (s1.drewN 1) (t1.drewN 1)
      unfold entA at hA
      generalize ahead l[k] l[k + 1] = c at hA hah
      generalize l[k] = o at d0 d1 d2 d3 d4 hA
      generalize l[k + 1] = o' at e0 e1 e2 e3 e4 hA
      generalize o.key.length = kl at d0 hA
      generalize o.val.length = ln at d4 hA
      generalize o.seq = seq at d1 hA
      generalize o.gone = gone at d2 hA
      generalize o.till = till at d3 hA
      generalize o'.key.length = kl2 at e0 hA
      generalize o'.val.length = ln2 at e4 hA
      generalize o'.seq = seq2 at e1 hA
      generalize o'.gone = gone2 at e2 hA
      generalize o'.till = till2 at e3 hA
      have hk62 : k ≤ 2 ^ 60 := by have := HS.out.2.2; omega
      have hwa : IntKind.i64.wrap ((k : Int) + 1 - 1) = (k : Int) := by rw [IntKind.wrap_i64]; omega
      have hwb : wrap64 ((k : Int) + 1 - 1) = (k : Int) := by unfold wrap64; omega
      have hwc : IntKind.i64.wrap (k : Int) = (k : Int) := by rw [IntKind.wrap_i64]; omega
      have hwd : wrap64 (k : Int) = (k : Int) := by unfold wrap64; omega
      have hkl0 : (k : Int) < (len : Int) := by omega
      have hkl3 : k < len := by omega
      have hge : decide (c ≥ 0) = false := by simp; omega
      have hge2 : decide (0 ≤ c) = false := by simp; omega
      obtain ⟨GK, HG⟩ : ∃ g, Hid (g < gk ∧ k + 1 + g = len) := ⟨len - (k + 1), by omega, by omega⟩
      have HKB : Hid (∀ wx, Below wr.drew.heap.size wr.drew wx → Below w.heap.size w wx) := fun wx hb => HK.out.drew.trans (hb.mono HK.out.drew.size)
      clear s1 s2 i1 i2 t1 t2 j1 j2 hk
      go_wp2_with fail
      go_region_held_law (fun w' => (w'.cell? ⟨b, off + k * 5, none⟩ = some (.slice ka kl kc) ∧ w'.cell? ⟨b, off + k * 5 + 1, none⟩ = some (.int .i64 seq) ∧ w'.cell? ⟨b, off + k * 5 + 2, none⟩ = some (.bool gone) ∧ w'.cell? ⟨b, off + k * 5 + 3, none⟩ = some (.int .i64 till) ∧ w'.cell? ⟨b, off + k * 5 + 4, none⟩ = some (.slice va ln vc)) ∧ (w'.cell? ⟨b, off + (k + 1) * 5, none⟩ = some (.slice kb kl2 kd) ∧ w'.cell? ⟨b, off + (k + 1) * 5 + 1, none⟩ = some (.int .i64 seq2) ∧ w'.cell? ⟨b, off + (k + 1) * 5 + 2, none⟩ = some (.bool gone2) ∧ w'.cell? ⟨b, off + (k + 1) * 5 + 3, none⟩ = some (.int .i64 till2) ∧ w'.cell? ⟨b, off + (k + 1) * 5 + 4, none⟩ = some (.slice vb ln2 vd))) (first | exact ⟨⟨d0, d1, d2, d3, d4⟩, ⟨e0, e1, e2, e3, e4⟩⟩ | exact ⟨⟨cell_later hb5 d0, cell_later hb5 d1, cell_later hb5 d2, cell_later hb5 d3, cell_later hb5 d4⟩, ⟨cell_later hb5 e0, cell_later hb5 e1, cell_later hb5 e2, cell_later hb5 e3, cell_later hb5 e4⟩⟩) (first | (go_at_call 69; refine hA.mono ?_; rintro e w5 ⟨rfl, hb5⟩))
      go_wp2_with fail
      go_roundg GK
      case measure => exact HG.out.1
      case rel => exact ⟨k + 1, .inl HG.out.2, by go_num, HKB.out _ hb5⟩
    · have hkl' : (len : Int) ≤ (k : Int) + 1 := by omega
      clear hk hkl
      go_wp2_with fail
      exact bodyPost_ret (v := .bool true) (by simp [results, Try.results36, go_sem]) rfl ⟨rfl, HK.out⟩
end Go.Proofs.Ytfecopldepnicaa

/- The law's own filling of a mem, of any mem. -/
namespace Go.Proofs.Ytfecopldepnicaa
open Go.RowKit
set_option linter.unusedVariables false
set_option linter.unusedSimpArgs false

theorem RowF.kept {α : Type} {E : El α} {B : Nat} {G F : Nat → Prop} {w w' : World} {v : Value} {xs : List α} (h : RowF E B G w v xs) (hk : Kept F w w') (h1 : ∀ g, v.ownBlock = some g → ¬ F g) (h2 : ∀ b, G b → ¬ F b) : RowF E B G w' v xs := by
  obtain ⟨us, hown, g2, g3, g4⟩ := h
  refine ⟨us, ⟨hown.1, ?_⟩, g2.keep fun u hu b hr => hk.block b (g2.lt u hu b hr) (h2 b (g4 u hu b hr)), g3, g4⟩
  rcases hown.2 with q | ⟨g, cap, cur, q1, q2, q3, q4⟩
  · exact .inl q
  · exact .inr ⟨g, cap, cur, q1, q2, by rw [hk.block g (Array.getElem?_eq_some_iff.1 q3).1 (h1 g (by rw [q1]; rfl))]; exact q3, q4⟩
/-- A mem and the document's own row, side by side. -/
def FillS (D : PM) (w : World) (p : Nat) (n : Nat) (wx : World) (v : Value) : Prop :=
  ∃ F L, D.R wx p L F ∧ ordE L ∧ okE L ∧ L.length ≤ n ∧ RowF entE w.heap.size (fun b => b < w.heap.size) wx v L ∧ (∀ g, v.ownBlock = some g → ¬ F g) ∧ (∀ k, F k → w.heap.size ≤ k) ∧ Below w.heap.size w wx

theorem FillS.later {D : PM} {w : World} {p n : Nat} {wx wy : World} {v : Value} (h : FillS D w p n wx v) (hb : Below wx.heap.size wx wy) : FillS D w p n wy v := by
  obtain ⟨F, L, a1, a2, a3, a4, a5, a6, a7, a8⟩ := h
  exact ⟨F, L, PM.later a1 hb, a2, a3, a4, a5.later hb, a6, a7, a8.trans (hb.mono a8.size)⟩
theorem addE_bad {l : List EntV} {e : EntV} (h : mayE e = false) : addE l e = (1, l) := by unfold addE; rw [if_pos h]
theorem addE_has {l : List EntV} {e : EntV} (h : mayE e = true) (h2 : hasE l e = true) : addE l e = (6, l) := by unfold addE; rw [if_neg (by rw [h]; decide), if_pos h2]
theorem addE_put {l : List EntV} {e : EntV} (h : mayE e = true) (h2 : hasE l e = false) : addE l e = (0, putE l e) := by unfold addE; rw [if_neg (by rw [h]; decide), if_neg (by rw [h2]; decide)]

end Go.Proofs.Ytfecopldepnicaa
