import Derived.Test.YtnoackenjfpcmaaPk11
import Derived.Test.YtnoackenjfpcmaaPk12
import Derived.Test.YtnoackenjfpcmaaPk21
import Derived.Test.YtnoackenjfpcmaaPk22
/- The law's sorted. -/
namespace Go.Proofs.Ytnoackenjfpcmaa
open Go.RowKit
set_option linter.unusedVariables false
set_option linter.unusedSimpArgs false

/-- What a row has come to behind j entries. -/
def sJ (k j : Nat) (l : List EntV) : List EntV := if k < 20 then ((l.take j).take 30).foldl putS [] else []
theorem sJ_ord (k j : Nat) (l : List EntV) : ordE (sJ k j l) := by
  unfold sJ; split
  · exact foldS_ord _ _ List.Pairwise.nil
  · exact List.Pairwise.nil
theorem sJ_len (k j : Nat) (l : List EntV) : (sJ k j l).length ≤ 30 := by
  unfold sJ; split
  · have h := foldS_len ((l.take j).take 30) []
    have : ((l.take j).take 30).length ≤ 30 := by rw [List.length_take]; omega
    simp at h
    omega
  · simp
theorem sJ_step {k j : Nat} {l : List EntV} {e : EntV} (h : l[j]? = some e) (hk : k < 20) (hj : j < 30) : sJ k (j + 1) l = putS (sJ k j l) e := by
  unfold sJ
  obtain ⟨hl, rfl⟩ := List.getElem?_eq_some_iff.1 h
  rw [if_pos hk, if_pos hk, List.take_take, List.take_take, show min 30 (j + 1) = j + 1 by omega, show min 30 j = j by omega, List.take_add_one, List.getElem?_eq_getElem hl, List.foldl_append]
  rfl
theorem sJ_stay {k j : Nat} (l : List EntV) (h : ¬ (k < 20 ∧ j < 30)) : sJ k (j + 1) l = sJ k j l := by
  unfold sJ
  by_cases hk : k < 20
  · rw [if_pos hk, if_pos hk, List.take_take, List.take_take, show min 30 (j + 1) = 30 by omega, show min 30 j = 30 by omega]
  · rw [if_neg hk, if_neg hk]
theorem sJ_end (k : Nat) (l : List EntV) : sJ k l.length l = if k < 20 then srtL l else [] := by
  unfold sJ srtL
  rw [List.take_length]
set_option maxHeartbeats 8000000 in
set_option maxRecDepth 100000 in
theorem sorted16_t {w : World} {ao : Option Addr} {n cap : Nat} {rs : List (List EntV)} (h : ErRow w ao n cap rs) (hn : n ≤ 1000000) :
    Calls Try.prog 11 #[.slice ao n cap] w fun e w' => ∃ a' c', e = .returned (.slice a' n c') ∧ ErRow w' a' n c' (srtR 0 rs) ∧ Below w.heap.size w w' := by
  have H0 := hid h
  obtain ⟨SR, hSR⟩ : ∃ S, S = srtR 0 rs := ⟨_, rfl⟩
  have HSR := hid hSR
  have HLN : Hid (SR.length = n ∧ rs.length = n) := ⟨by rw [hSR, srtR_len]; exact h.len.1, h.len.1⟩
  rw [← hSR]
  clear h hSR
  go_enter Try.func11, Try.ntmps11
  go_wp2_with fail
  go_loopg [3, 11] n (fun kx s3 s11 wr => ∃ (k : Nat) (xs : List Value), s11 = .int .i64 k ∧ k + kx = n ∧ Hid (RowS slvE w.heap.size wr s3 xs ∧ Rws (fun b => b < w.heap.size) wr xs (SR.take k) ∧ Below w.heap.size w wr))
  case atStart => exact ⟨0, [], rfl, by omega, RowS.nil _ _, ⟨rfl, fun j x l h1 h2 => by simp at h1⟩, Below.refl _ _⟩
  case round =>
    obtain ⟨k, xs, rfl, hg, HK⟩ := hrel
    obtain ⟨oa, on, oc, hoe, hon⟩ : ∃ a n c, u3 = .slice a n c ∧ n = xs.length := by
      obtain ⟨a, c, e, _⟩ := HK.out.1.rs
      exact ⟨a, _, c, e, rfl⟩
    subst hoe
    have HON := hid hon
    clear hon
    by_cases hk : k < n
    · have hk' : (k : Int) < (n : Int) := by omega
      obtain ⟨l, hl⟩ : ∃ l, rs[k]? = some l := ⟨_, List.getElem?_eq_getElem (by have := HLN.out; omega)⟩
      obtain ⟨b, off, la, lc, rfl, c0, hrl⟩ := H0.out.at' k l hl
      replace c0 := cell_later HK.out.2.2 c0
      have HSK : Hid (SR.take (k + 1) = SR.take k ++ [if k < 20 then srtL l else []]) := by
        have h1 := srtR_at (i := 0) hl
        rw [← HSR.out, Nat.zero_add] at h1
        obtain ⟨hs, e⟩ := List.getElem?_eq_some_iff.1 h1
        show _ = _
        rw [List.take_add_one, List.getElem?_eq_getElem hs, e]; rfl
      have HRL : Hid (RSG entE (fun b => b < w.heap.size) w la l.length lc l) := RSG.any hrl
      have hll : l.length ≤ 2 ^ 63 - 1 := by have := hrl.len; unfold maxLen at this; omega
      have HGK := hid (And.intro hg hk)
      obtain ⟨L, hL⟩ : ∃ L, L = l.length := ⟨_, rfl⟩
      have HLE := hid hL
      rw [← hL] at c0 hll
      obtain ⟨W0, hW0⟩ : ∃ W0, W0 = wr := ⟨_, rfl⟩
      have HK0 : Hid (RowS slvE w.heap.size W0 (.slice oa on oc) xs ∧ Rws (fun b => b < w.heap.size) W0 xs (SR.take k) ∧ Below w.heap.size w W0) := by rw [hW0]; exact HK.out
      have HW00 : Hid (Below W0.heap.size W0 wr) := by rw [hW0]; exact Below.refl _ _
      have HBW : Hid (∀ wx, Below W0.heap.size W0 wx → Below w.heap.size w wx) := fun wx hb => HK0.out.2.2.trans (hb.mono HK0.out.2.2.size)
      have hk62 : k ≤ 1000000 := by omega
      clear hg hk hl hrl hL HK hW0
      go_wp2_with fail
      go_loopg [6, 18] L (fun kx s6 s18 wx => ∃ (j : Nat) (sa : Option Addr) (sn sc : Nat), s18 = .int .i64 j ∧ s6 = .slice sa sn sc ∧ j + kx = L ∧ Hid (sn = (sJ k j l).length ∧ RSG entE (fun b => b < w.heap.size) wx sa sn sc (sJ k j l) ∧ (∀ b off, sa = some ⟨b, off, none⟩ → W0.heap.size ≤ b) ∧ Below W0.heap.size W0 wx))
      case atStart =>
        have e0 : sJ k 0 l = [] := by unfold sJ; split <;> simp
        exact ⟨0, none, 0, 0, rfl, rfl, by omega, by rw [e0]; rfl, by rw [e0]; exact ⟨[], ⟨rfl, fun _ => ⟨rfl, rfl⟩, Nat.le_refl _, Nat.zero_le _, rfl, fun j u hu => by simp at hu⟩, fun u hu => by cases hu⟩, (fun b off q => by cases q), HW00.out⟩
      case round =>
        obtain ⟨j, sa, sn, sc, rfl, rfl, hg2, HJ⟩ := hrel
        by_cases hj : j < L
        · have hj' : (j : Int) < (L : Int) := by omega
          obtain ⟨e, he⟩ : ∃ e, l[j]? = some e := ⟨_, List.getElem?_eq_getElem (by have := HLE.out; omega)⟩
          obtain ⟨b2, off2, ka, kc, va, vc, hla, r0, r1, r2, r3, r4, hM, -, gq⟩ := RSG.ent HRL.out he
          subst hla
          have bw := HBW.out _ HJ.out.2.2.2
          replace r0 := cell_later bw r0
          replace r1 := cell_later bw r1
          replace r2 := cell_later bw r2
          replace r3 := cell_later bw r3
          replace r4 := cell_later bw r4
          have hj62 : j ≤ 2 ^ 63 - 2 := by omega
          have HR := hid (And.intro hg2 (And.intro hj he))
          have hb1 : Below wr.heap.size wr (wr.alloc (.cells #[.slice ka e.key.length kc, .int .i64 e.seq, .bool e.gone, .int .i64 e.till, .slice va e.val.length vc] 35)) := (Below.refl _ _).alloc (Nat.le_refl _) _
          have hB1 := HJ.out.2.2.2.trans (hb1.mono HJ.out.2.2.2.size)
          have HPU : Hid (Calls Try.prog 24 #[.slice sa sn sc, .agg #[.slice ka e.key.length kc, .int .i64 e.seq, .bool e.gone, .int .i64 e.till, .slice va e.val.length vc]] (wr.alloc (.cells #[.slice ka e.key.length kc, .int .i64 e.seq, .bool e.gone, .int .i64 e.till, .slice va e.val.length vc] 35)) fun r w' => ∃ va2 vn2 vc2 ok, r = .returned (.tuple #[.slice va2 vn2 vc2, .bool ok]) ∧ vn2 = (putS (sJ k j l) e).length ∧ RSG entE (fun b => b < w.heap.size) w' va2 vn2 vc2 (putS (sJ k j l) e) ∧ (∀ b off, va2 = some ⟨b, off, none⟩ → W0.heap.size ≤ b) ∧ Below W0.heap.size W0 w') := by
            refine (rputE_any (HJ.out.2.1.later hb1) (El.later (E := entE) hM (HBW.out _ hB1)) (fun b hb => Nat.lt_of_lt_of_le hb (HBW.out _ hB1).size) gq (by have := sJ_len k j l; have := HJ.out.1; omega) (sJ_ord k j l)).mono ?_
            rintro r w' ⟨hb2, hh⟩
            have hB2 := hB1.trans (hb2.mono hB1.size)
            rcases hh with ⟨hq, rfl⟩ | ⟨hq, v, rfl, hr⟩
            · have ep : putS (sJ k j l) e = sJ k j l := by unfold putS; rw [if_pos hq]
              rw [ep]
              exact ⟨sa, sn, sc, false, rfl, HJ.out.1, (HJ.out.2.1.later hb1).later hb2, HJ.out.2.2.1, hB2⟩
            · have ep : putS (sJ k j l) e = putE (sJ k j l) e := by unfold putS; rw [if_neg (by rw [hq]; simp)]
              rw [ep]
              obtain ⟨va2, vc2, hv, hrg⟩ := hr.rsg
              refine ⟨va2, _, vc2, true, by rw [hv], rfl, hrg, fun b off ea => ?_, hB2⟩
              have ho : v.ownBlock = some b := by rw [hv, ea]; rfl
              have := (hr.own_lt ho).1
              exact Nat.le_trans hB1.size this
          have HBN : Hid (Below W0.heap.size W0 (wr.alloc (.cells #[.slice ka e.key.length kc, .int .i64 e.seq, .bool e.gone, .int .i64 e.till, .slice va e.val.length vc] 35))) := hB1
          have HSt : Hid (RSG entE (fun b => b < w.heap.size) (wr.alloc (.cells #[.slice ka e.key.length kc, .int .i64 e.seq, .bool e.gone, .int .i64 e.till, .slice va e.val.length vc] 35)) sa sn sc (sJ k j l)) := HJ.out.2.1.later hb1
          have HST := hid (fun (h1 : k < 20) (h2 : j < 30) => sJ_step he h1 h2)
          have t0 : (wr.alloc (.cells #[.slice ka e.key.length kc, .int .i64 e.seq, .bool e.gone, .int .i64 e.till, .slice va e.val.length vc] 35)).cell? ⟨wr.heap.size, 0, none⟩ = some (.slice ka e.key.length kc) := by rw [cell_of (heap_alloc_new wr _)]; rfl
          have t1 : (wr.alloc (.cells #[.slice ka e.key.length kc, .int .i64 e.seq, .bool e.gone, .int .i64 e.till, .slice va e.val.length vc] 35)).cell? ⟨wr.heap.size, 1, none⟩ = some (.int .i64 e.seq) := by rw [cell_of (heap_alloc_new wr _)]; rfl
          have t2 : (wr.alloc (.cells #[.slice ka e.key.length kc, .int .i64 e.seq, .bool e.gone, .int .i64 e.till, .slice va e.val.length vc] 35)).cell? ⟨wr.heap.size, 2, none⟩ = some (.bool e.gone) := by rw [cell_of (heap_alloc_new wr _)]; rfl
          have t3 : (wr.alloc (.cells #[.slice ka e.key.length kc, .int .i64 e.seq, .bool e.gone, .int .i64 e.till, .slice va e.val.length vc] 35)).cell? ⟨wr.heap.size, 3, none⟩ = some (.int .i64 e.till) := by rw [cell_of (heap_alloc_new wr _)]; rfl
          have t4 : (wr.alloc (.cells #[.slice ka e.key.length kc, .int .i64 e.seq, .bool e.gone, .int .i64 e.till, .slice va e.val.length vc] 35)).cell? ⟨wr.heap.size, 4, none⟩ = some (.slice va e.val.length vc) := by rw [cell_of (heap_alloc_new wr _)]; rfl
          obtain ⟨PS, hPS⟩ : ∃ P, P = putS (sJ k j l) e := ⟨_, rfl⟩
          rw [← hPS] at HPU HST
          clear hPS hM gq bw hb1 hB1 hg2 hj he
          generalize e.key.length = kl at r0 t0 t1 t2 t3 t4 HPU HBN HSt
          generalize e.seq = sq at r1 t0 t1 t2 t3 t4 HPU HBN HSt
          generalize e.gone = gn at r2 t0 t1 t2 t3 t4 HPU HBN HSt
          generalize e.till = tl at r3 t0 t1 t2 t3 t4 HPU HBN HSt
          generalize e.val.length = vl at r4 t0 t1 t2 t3 t4 HPU HBN HSt
          by_cases z1 : k < 20
          · have z1' : (k : Int) < 20 := by omega
            by_cases z2 : j < 30
            · have z2' : (j : Int) < 30 := by omega
              have HS2 := hid (HST.out z1 z2)
              clear z1 z2
              go_wp2_with (go_at_call 24; refine HPU.out.mono ?_; rintro r w5 ⟨va2, vn2, vc2, ok, rfl, hv2⟩; have HV := hid hv2; clear hv2)
              go_roundg (L - (j + 1))
              case measure => have := HR.out; omega
              case rel => exact ⟨j + 1, va2, vn2, vc2, by go_num, rfl, by have := HR.out; omega, by rw [HS2.out]; exact HV.out⟩
            · have z2' : ¬ (j : Int) < 30 := by omega
              have HS2 := hid (sJ_stay (k := k) (j := j) l (fun q => z2 q.2))
              clear z1 z2
              go_wp2_with fail
              go_roundg (L - (j + 1))
              case measure => have := HR.out; omega
              case rel => exact ⟨j + 1, sa, sn, sc, by go_num, rfl, by have := HR.out; omega, by rw [HS2.out]; exact ⟨HJ.out.1, HSt.out, HJ.out.2.2.1, HBN.out⟩⟩
          · have z1' : ¬ (k : Int) < 20 := by omega
            have HS2 := hid (sJ_stay (k := k) (j := j) l (fun q => z1 q.1))
            clear z1
            go_wp2_with fail
            go_roundg (L - (j + 1))
            case measure => have := HR.out; omega
            case rel => exact ⟨j + 1, sa, sn, sc, by go_num, rfl, by have := HR.out; omega, by rw [HS2.out]; exact ⟨HJ.out.1, HSt.out, HJ.out.2.2.1, HBN.out⟩⟩
        · have hj' : ¬ (j : Int) < (L : Int) := by omega
          obtain rfl : j = L := by omega
          have HE : Hid (sJ k j l = if k < 20 then srtL l else []) := by
            show _ = _
            rw [HLE.out]; exact sJ_end k l
          obtain ⟨X, hX⟩ : ∃ X, X = if k < 20 then srtL l else [] := ⟨_, rfl⟩
          rw [← hX] at HE HSK
          rw [HE.out] at HJ
          have hb1 : Below wr.heap.size wr (wr.alloc (.cells #[.slice sa sn sc] 27)) := (Below.refl _ _).alloc (Nat.le_refl _) _
          have hB1 := HJ.out.2.2.2.trans (hb1.mono HJ.out.2.2.2.size)
          have hap : RowS slvE w.heap.size (wr.alloc (.cells #[.slice sa sn sc] 27)) (.slice oa on oc) xs ∧ RSu slvE (wr.alloc (.cells #[.slice sa sn sc] 27)) (some ⟨wr.heap.size, 0, none⟩) 1 1 [.slice sa sn sc] [.slice sa sn sc] ∧ (∀ u ∈ [Value.slice sa sn sc], ∀ b, Refs u b → (Value.slice oa on oc).ownBlock ≠ some b) ∧ w.heap.size ≤ (wr.alloc (.cells #[.slice sa sn sc] 27)).heap.size ∧ Rws (fun b => b < w.heap.size) (wr.alloc (.cells #[.slice sa sn sc] 27)) xs (SR.take k) ∧ RSG entE (fun b => b < w.heap.size) (wr.alloc (.cells #[.slice sa sn sc] 27)) sa sn sc X ∧ Below w.heap.size w (wr.alloc (.cells #[.slice sa sn sc] 27)) := by
            refine ⟨HK0.out.1.later hB1, rs_one (E := slvE) ⟨rfl, rfl, fun b hr => ?_⟩, fun u hu b hr e => ?_, (HBW.out _ hB1).size, HK0.out.2.1.later hB1, HJ.out.2.1.later hb1, HBW.out _ hB1⟩
            · obtain ⟨off3, l3, c3, e3, h3⟩ := hr
              simp only [Value.slice.injEq] at e3
              obtain ⟨rfl, rfl, rfl⟩ := e3
              obtain ⟨us, ⟨q1, q2, q3, q4, q5, q6⟩, -⟩ := HJ.out.2.1
              have hlu := q5.len
              have h5 : entE.size = 5 := rfl
              rw [h5, q1] at hlu
              obtain ⟨b', off', e', hc⟩ := q6 0 _ (List.getElem?_eq_getElem (by omega))
              simp only [Option.some.injEq, Addr.mk.injEq, and_true] at e'
              obtain ⟨rfl, rfl⟩ := e'
              exact World.block_lt_of_cell? _ _ hc
            · rw [List.mem_singleton.1 hu] at hr
              obtain ⟨off3, l3, c3, e3, h3⟩ := hr
              simp only [Value.slice.injEq] at e3
              obtain ⟨rfl, rfl, rfl⟩ := e3
              have k1 := HJ.out.2.2.1 b off3 rfl
              have k2 := (HK0.out.1.own_lt e).2
              omega
          have HAP := hid hap
          have HXL : Hid (sn = X.length) := HJ.out.1
          have HGK2 := HGK
          clear hX hb1 hB1 hap hg2 hj HJ
          go_wp2_with (at_builtin; refine wpList_appS slvE (t := 22) (z := .slice none 0 0) (bytes := 24) Try.underlying22 slvE_info rfl (by decide) rfl (.tmp 36) (.tmp 38) rfl rfl HAP.out.1 rfl HAP.out.2.1 HAP.out.2.2.1 (by have := HAP.out.2.2.2.2.1.1; rw [this, List.length_take]; omega) (by have := HAP.out.2.2.2.2.1.1; rw [this, List.length_take]; omega) HAP.out.2.2.2.1 ?_; intro v9 w9 r9 g9 m9)
          go_roundg (n - (k + 1))
          case measure => have := HGK2.out; omega
          case rel =>
            have hGo : ∀ b, b < w.heap.size → some b ≠ (Value.slice oa on oc).ownBlock := fun b hb e => by have := (HAP.out.1.own_lt e.symm).1; omega
            have hR := HAP.out.2.2.2.2.1.grown g9 hGo fun x hx b hr e => by
              obtain ⟨us, _, hlay, hsep⟩ := HAP.out.1
              obtain rfl := lay_slv hlay
              exact hsep x hx b hr e.symm
            have hS := HAP.out.2.2.2.2.2.1.grown (by decide) g9 hGo fun b off ea hn0 e => HAP.out.2.2.1 (.slice sa sn sc) (List.mem_singleton.2 rfl) b ⟨off, sn, sc, by rw [ea], hn0⟩ e.symm
            have hsn : sn = X.length := HXL.out
            subst hsn
            exact ⟨k + 1, xs ++ [.slice sa X.length sc], by go_num, by have := HGK2.out; omega, r9, by rw [HSK.out]; exact hR.snoc hS, HAP.out.2.2.2.2.2.2.grown g9 HAP.out.2.2.2.1 fun z hz => (HAP.out.1.own_lt hz).1⟩
    · have hk' : ¬ (k : Int) < (n : Int) := by omega
      have HF : Hid (Rws (fun b => b < w.heap.size) wr xs SR) := by
        have := HK.out.2.1
        rwa [List.take_of_length_le (by have := HLN.out; omega)] at this
      have hfin := HF.out.er HK.out.1
      have HFI := hid hfin
      clear hg hk hfin
      go_wp2_with fail
      refine bodyPost_ret (v := .slice oa on oc) (by simp [results, Try.results11, go_sem]) rfl ?_
      obtain ⟨a', c', e, hr⟩ := HFI.out
      rw [HLN.out.1] at e hr
      exact ⟨a', c', by rw [e], hr, HK.out.2.2⟩
end Go.Proofs.Ytnoackenjfpcmaa

/- The laws of rows as one: what they share. -/
namespace Go.Proofs.Ytnoackenjfpcmaa
open Go.RowKit
set_option linter.unusedVariables false
set_option linter.unusedSimpArgs false

theorem srtR_mem : ∀ (i : Nat) (rs : List (List EntV)), ∀ l ∈ srtR i rs, ∀ e ∈ l, ∃ l0 ∈ rs, e ∈ l0
  | _, [], l, h, e, he => by cases h
  | i, l' :: rs, l, h, e, he => by
    unfold srtR at h
    rcases List.mem_cons.1 h with rfl | h
    · split at he
      · exact ⟨l', List.mem_cons_self .., srtL_mem he⟩
      · cases he
    · obtain ⟨l0, h1, h2⟩ := srtR_mem (i + 1) rs l h e he
      exact ⟨l0, List.mem_cons_of_mem _ h1, h2⟩
theorem sumR_le {rs : List (List EntV)} {c : Nat} (h : ∀ l ∈ rs, l.length ≤ c) : sumR rs ≤ rs.length * c := by
  induction rs with
  | nil => simp [sumR]
  | cons l r ih =>
    have h1 := ih fun l' hl => h l' (List.mem_cons_of_mem _ hl)
    have h2 := h l (List.mem_cons_self ..)
    unfold sumR at *
    rw [List.map_cons, List.sum_cons, List.length_cons, Nat.add_mul]
    omega
/-- What is light, brought in order. -/
theorem lit_srt {rs : List (List EntV)} (h : litW 0 0 rs = true) : Szr (srtR 0 rs) ∧ sumR (srtR 0 rs) ≤ 2100 ∧ (srtR 0 rs).length = rs.length ∧ rs.length ≤ 70 ∧ (∀ l ∈ srtR 0 rs, ordE l) := by
  obtain ⟨h1, h2, h3⟩ := litW_ok h
  have hl : rs.length ≤ 70 := by
    rcases h1 with rfl | h1
    · simp
    · omega
  have hs := sumR_le (srtR_small 0 rs)
  rw [srtR_len] at hs
  refine ⟨⟨by rw [srtR_len]; omega, fun l hl => by have := srtR_small 0 rs l hl; omega, fun l hl e he => ?_⟩, by omega, srtR_len 0 rs, hl, srtR_ord 0 rs⟩
  obtain ⟨l0, q1, q2⟩ := srtR_mem 0 rs l hl e he
  have := (h3 l0 q1).2 e q2
  omega
/-- What is light may be merged or not, but is small. -/
theorem lit_szr {rs : List (List EntV)} (h : litW 0 0 rs = true) : Szr rs := by
  obtain ⟨h1, h2, h3⟩ := litW_ok h
  have hl : rs.length ≤ 70 := by
    rcases h1 with rfl | h1
    · simp
    · omega
  refine ⟨by omega, fun l hl => by have := (h3 l hl).1; omega, fun l hl e he => ?_⟩
  have := (h3 l hl).2 e he
  omega
theorem mrC_ok {rs : List (List EntV)} (h : ∀ l ∈ rs, ordE l) (h1 : rs.length ≤ 64) (h2 : sumR rs ≤ 40000) : mrC rs = 0 := by
  unfold mrC
  rw [if_pos (ord_all h), if_neg (by omega)]
theorem mrV_ok {rs : List (List EntV)} (h : mrC rs = 0) : mrV rs = mrgE rs := by unfold mrV; rw [if_pos h]
theorem sumR_drop : ∀ (rs : List (List EntV)) (k : Nat), sumR (rs.drop k) ≤ sumR rs
  | [], k => by simp [sumR]
  | l :: rs, 0 => by simp
  | l :: rs, k + 1 => by
    have := sumR_drop rs k
    rw [List.drop_succ_cons]
    have e : sumR (l :: rs) = l.length + sumR rs := by unfold sumR; simp
    omega
theorem Szr.sub {rs rs' : List (List EntV)} (h : Szr rs) (h1 : rs'.length ≤ rs.length) (h2 : ∀ l ∈ rs', l ∈ rs) : Szr rs' :=
  ⟨Nat.le_trans h1 h.len, fun l hl => h.row l (h2 l hl), fun l hl => h.ent l (h2 l hl)⟩
theorem mrgE_small {rs : List (List EntV)} (h : Szr rs) : ∀ e ∈ mrgE rs, e.key.length ≤ 1000000 ∧ e.val.length ≤ 1000000 := fun e he => by
  have := (mrgE_perm rs).mem_iff.1 he
  obtain ⟨l, h1, h2⟩ := List.mem_flatten.1 this
  exact h.ent l h1 e h2
theorem elem22 : Try.prog.elem 22 = 27 := by kernel_rfl
theorem under22 : Try.prog.underlying 22 = some (.slice (Try.prog.elem 22)) := by rw [elem22]; exact Try.underlying22
theorem run_headW (w : World) (ao : Option Addr) (len cap j : Nat) (h2 : j ≤ cap) : (Instr.slice 22 (.slice ao len cap) none (some (.int .i64 (j : Int))) none).run Try.prog w = .ok (.slice (cutS ao cap 0 1) j cap) w := by
  rw [run_slice_h (P := Try.prog) (w := w) 22 ao len cap under22 .i64 (j : Int) (by omega) (by omega), elem22, Try.sizeOf27]
  simp only [Result.andThen, Int.toNat_natCast]
  rw [sliced_cutS _ _ _ _ _ (by omega)]
  rfl
theorem run_fromW (w : World) (ao : Option Addr) (len cap i : Nat) (h1 : i ≤ len) (h2 : len ≤ cap) : (Instr.slice 22 (.slice ao len cap) (some (.int .i64 (i : Int))) none none).run Try.prog w = .ok (.slice (cutS ao cap i 1) (len - i) (cap - i)) w := by
  rw [run_slice_l (P := Try.prog) (w := w) 22 ao len cap under22 .i64 (i : Int) (by omega) (by omega), elem22, Try.sizeOf27]
  simp only [Result.andThen, Int.toNat_natCast]
  rw [sliced_cutS _ _ _ _ _ (by omega)]
theorem ErRow.head {w : World} {ao : Option Addr} {n cap : Nat} {rs : List (List EntV)} (h : ErRow w ao n cap rs) (j : Nat) (hj : j ≤ n) : ErRow w (cutS ao cap 0 1) j cap (rs.take j) := by
  have hl := h.len
  refine ⟨⟨by rw [List.length_take]; omega, by omega, hl.2.2⟩, fun e => ?_, fun k l hk => ?_⟩
  · have : ao = none := by
      unfold cutS at e
      by_cases q : cap - 0 = 0
      · rw [if_pos q] at e; exact e
      · rw [if_neg q] at e; simpa using e
    have := h.nil this
    omega
  · rw [List.getElem?_take] at hk
    split at hk
    · obtain ⟨b, off, la, lc, rfl, c0, hr⟩ := h.at' k l hk
      refine ⟨b, off, la, lc, ?_, c0, hr⟩
      unfold cutS
      rw [if_neg (by omega)]
      simp [Addr.add_lit]
    · cases hk
theorem ErRow.from {w : World} {ao : Option Addr} {n cap : Nat} {rs : List (List EntV)} (h : ErRow w ao n cap rs) (i : Nat) (hi : i ≤ n) : ErRow w (cutS ao cap i 1) (n - i) (cap - i) (rs.drop i) := by
  have hl := h.len
  refine ⟨⟨by rw [List.length_drop]; omega, by omega, by omega⟩, fun e => ?_, fun k l hk => ?_⟩
  · have : ao = none := by
      unfold cutS at e
      by_cases q : cap - i = 0
      · rw [if_pos q] at e; exact e
      · rw [if_neg q] at e; simpa using e
    have := h.nil this
    omega
  · rw [List.getElem?_drop] at hk
    have hkl := (List.getElem?_eq_some_iff.1 hk).1
    obtain ⟨b, off, la, lc, rfl, c0, hr⟩ := h.at' (i + k) l hk
    refine ⟨b, off + i, la, lc, ?_, by rw [Nat.add_assoc]; exact c0, hr⟩
    unfold cutS
    rw [if_neg (by omega)]
    simp [Addr.add_lit]
/-- Three rows in a row of one's own. -/
theorem er_three {w : World} {a1 a2 a3 : Option Addr} {c1 c2 c3 : Nat} {A B C : List EntV} (h1 : RS entE w a1 A.length c1 A) (h2 : RS entE w a2 B.length c2 B) (h3 : RS entE w a3 C.length c3 C) :
    ErRow (w.alloc (.cells #[.slice a1 A.length c1, .slice a2 B.length c2, .slice a3 C.length c3] 27)) (some ⟨w.heap.size, 0, none⟩) 3 3 [A, B, C] := by
  have hb : Below w.heap.size w (w.alloc (.cells #[.slice a1 A.length c1, .slice a2 B.length c2, .slice a3 C.length c3] 27)) := (Below.refl _ _).alloc (Nat.le_refl _) _
  have hn := heap_alloc_new w (.cells #[.slice a1 A.length c1, .slice a2 B.length c2, .slice a3 C.length c3] 27)
  refine ⟨⟨rfl, Nat.le_refl _, by unfold maxLen; omega⟩, (fun q => by cases q), fun k l hl => ?_⟩
  match k, hl with
  | 0, hl =>
    obtain rfl : A = l := by simpa using hl
    exact ⟨_, 0, _, _, rfl, by rw [cell_of hn]; rfl, h1.later hb⟩
  | 1, hl =>
    obtain rfl : B = l := by simpa using hl
    exact ⟨_, 0, _, _, rfl, by rw [cell_of hn]; rfl, h2.later hb⟩
  | 2, hl =>
    obtain rfl : C = l := by simpa using hl
    exact ⟨_, 0, _, _, rfl, by rw [cell_of hn]; rfl, h3.later hb⟩
  | k + 3, hl => simp at hl
theorem merge_any {w : World} {ao : Option Addr} {n cap : Nat} {rs : List (List EntV)} (h : ErRow w ao n cap rs) (hz : Szr rs) :
    Calls Try.prog 12 #[.slice ao n cap] w fun r w' => ∃ a c, r = .returned (.tuple #[.slice a (mrV rs).length c, .int .i64 (mrC rs : Nat)]) ∧ RS entE w' a (mrV rs).length c (mrV rs) ∧ Below w.heap.size w w' := by
  refine (merge_t h hz).mono ?_
  rintro r w' ⟨v, rfl, hr, hb⟩
  obtain ⟨a, c, rfl, hrs⟩ := hr.rs
  exact ⟨a, c, rfl, hrs, hb⟩
theorem merge_ok {w : World} {ao : Option Addr} {n cap : Nat} {rs : List (List EntV)} (h : ErRow w ao n cap rs) (hz : Szr rs) (h0 : mrC rs = 0) :
    Calls Try.prog 12 #[.slice ao n cap] w fun r w' => ∃ a c, r = .returned (.tuple #[.slice a (mrgE rs).length c, .int .i64 0]) ∧ RS entE w' a (mrgE rs).length c (mrgE rs) ∧ Below w.heap.size w w' := by
  have := merge_any h hz
  rw [h0, mrV_ok h0] at this
  exact this
/-- Entries in order, none twice, where no two neighbours are alike. -/
theorem ord_near {l : List EntV} (hw : l.Pairwise fun x y => ahead x y ≤ 0) (h : ∀ j (hj : j + 1 < l.length), ¬ (l[j].key = l[j + 1].key ∧ l[j].seq = l[j + 1].seq)) : ordE l :=
  ord_chain fun j hj => by
    have h1 := List.pairwise_iff_getElem.1 hw j (j + 1) (by omega) hj (by omega)
    have h2 := h j hj
    have h3 : ahead l[j] l[j + 1] ≠ 0 := fun e => h2 (ahead_zero.1 e)
    omega
end Go.Proofs.Ytnoackenjfpcmaa

/- The landed merge: New and Next. -/
namespace Go.Proofs.Ytnoackenjfpcmaa
open Go.RowKit
set_option linter.unusedVariables false
set_option linter.unusedSimpArgs false

set_option maxHeartbeats 4000000 in
set_option maxRecDepth 100000 in
theorem new_t {w : World} {ao : Option Addr} {n cap : Nat} {rs : List (List EntV)} (h : ErRow w ao n cap rs) (hz : Szr rs) (h0 : mrC rs = 0) :
    Calls Try.prog 16 #[.slice ao n cap] w fun r w' => ∃ (w1 : World) (a : Option Addr) (c : Nat), r = .returned (.tuple #[ptI w1.heap.size, .int .i64 0]) ∧ RS entE w1 a (mrgE rs).length c (mrgE rs) ∧ Below w.heap.size w w1 ∧ ItM w' w1.heap.size a (mrgE rs).length c 0 ∧ Below w1.heap.size w1 w' := by
  have HM := merge_ok h hz h0
  generalize (mrgE rs).length = N at HM ⊢
  generalize mrgE rs = l at HM ⊢
  clear h hz h0
  go_enter Try.func16, Try.ntmps16
  go_wp2_with (go_at_call 12; refine HM.mono ?_; rintro r w5 ⟨a, c, rfl, hr, hb⟩)
  refine bodyPost_ret (v := .tuple #[ptI w5.heap.size, .int .i64 0]) (by simp [results, Try.results16, go_sem, ptI]) rfl ⟨w5, a, c, rfl, hr, hb, ?_, (Below.refl _ _).alloc (Nat.le_refl _) _⟩
  exact heap_alloc_new w5 _

set_option maxHeartbeats 4000000 in
set_option maxRecDepth 100000 in
theorem next_t {w1 w : World} {p : Nat} {a : Option Addr} {n c k : Nat} {l : List EntV} (hI : ItM w p a n c k) (h1 : RS entE w1 a n c l) (hp : p = w1.heap.size) (hb : Below p w1 w) (hk : k < n) (hl : ∀ e ∈ l, e.key.length ≤ 1000000 ∧ e.val.length ≤ 1000000) (hn : n ≤ 2 ^ 60) :
    Calls Try.prog 19 #[ptI p] w fun r w' => ∃ (ka va : Option Addr) (kc vc : Nat) (x : EntV), l[k]? = some x ∧ r = .returned (.tuple #[entA ka kc va vc x, .bool true]) ∧ Sl w' ka x.key.length kc x.key ∧ Sl w' va x.val.length vc x.val ∧ ItM w' p a n c (k + 1) ∧ Below p w w' := by
  obtain ⟨W, hW⟩ : ∃ W, W = w.alloc (.cells #[.slice none 0 0, .int .i64 0, .bool false, .int .i64 0, .slice none 0 0] 35) := ⟨_, rfl⟩
  have bW : Below w.heap.size w W := by rw [hW]; exact (Below.refl _ _).alloc (Nat.le_refl _) _
  have sW : W.heap.size = w.heap.size + 1 := by rw [hW]; simp
  have hIW := hI.later bW
  have HLF : Hid (Calls Try.prog 21 #[ptI p] W fun e w' => e = .returned (.int .i64 ((n - k : Nat) : Int)) ∧ Below W.heap.size W w') := left_t hIW (by omega) hn
  obtain ⟨x, hx⟩ : ∃ x, l[k]? = some x := ⟨_, List.getElem?_eq_getElem (by have := h1.len.1; omega)⟩
  obtain ⟨b, o, ka, kc, va, vc, rfl, d0, d1, d2, d3, d4, sk, sv, -, -⟩ := RS.ent h1 hx
  have hblt : b < w1.heap.size := World.block_lt_of_cell? _ _ d0
  have hxl := hl x (List.mem_of_getElem? hx)
  have HX := hidM hx
  have HB := hidM (And.intro hp (And.intro hb hxl))
  have HS := hidM (And.intro sk sv)
  have HI := hidM (And.intro hI (And.intro bW sW))
  have hnk : ((n - k : Nat) : Int) = (n : Int) - (k : Int) := by omega
  have hnz : ((n : Int) - (k : Int) == 0) = false := by simp; omega
  have hk1 : (0 : Int) ≤ (k : Int) := by omega
  have hk2 : (k : Int) < (n : Int) := by omega
  have hn0 : ¬ (n : Int) - (k : Int) = 0 := by omega
  have HF : Hid (∀ wx, Below W.heap.size W wx → (wx.cell? ⟨p, 0, none⟩ = some (.slice (some ⟨b, o, none⟩) n c) ∧ wx.cell? ⟨p, 1, none⟩ = some (.int .i64 (k : Int)) ∧ wx.frozen? ⟨p, 1, none⟩ = false) ∧ (wx.cell? ⟨b, o + k * 5, none⟩ = some (.slice ka x.key.length kc) ∧ wx.cell? ⟨b, o + k * 5 + 1, none⟩ = some (.int .i64 x.seq) ∧ wx.cell? ⟨b, o + k * 5 + 2, none⟩ = some (.bool x.gone) ∧ wx.cell? ⟨b, o + k * 5 + 3, none⟩ = some (.int .i64 x.till) ∧ wx.cell? ⟨b, o + k * 5 + 4, none⟩ = some (.slice va x.val.length vc)) ∧ wx.heap[w.heap.size]? = some (.cells #[.slice none 0 0, .int .i64 0, .bool false, .int .i64 0, .slice none 0 0] 35)) := fun wx hbx => by
    have q1 : Below p w1 wx := (hb.trans (bW.mono (Nat.le_of_lt hI.lt))).trans (hbx.mono (by have := hI.lt; omega))
    have q2 : Below w1.heap.size w1 wx := hp ▸ q1
    refine ⟨(hIW.later hbx).cells, ⟨cell_later q2 d0, cell_later q2 d1, cell_later q2 d2, cell_later q2 d3, cell_later q2 d4⟩, ?_⟩
    rw [hbx.block _ (by omega), hW]
    exact heap_alloc_new w _
  have HW := hidM hW
  rw [hnk] at HLF
  clear hI h1 hp hb hk hl bW sW hIW d0 d1 d2 d3 d4 sk sv hx hxl hblt hW hnk
  unfold entA
  go_enter Try.func19, Try.ntmps19
  go_upto_region 3 with (rw [← HW.out]; go_at_call 21; refine HLF.out.mono ?_; rintro e w5 ⟨rfl, hb5⟩)
  unfold ptI
  have HB5 := hidM hb5
  clear hnz hn0 hb5 HLF
  obtain ⟨kl, hkl⟩ : ∃ z, z = x.key.length := ⟨_, rfl⟩
  obtain ⟨vl, hvl⟩ : ∃ z, z = x.val.length := ⟨_, rfl⟩
  rw [← hkl, ← hvl] at HF
  have HKV := hidM (And.intro hkl hvl)
  clear hkl hvl
  go_region_held_law (fun w' => w'.cell? ⟨p, 0, none⟩ = some (.slice (some ⟨b, o, none⟩) n c) ∧ w'.cell? ⟨p, 1, none⟩ = some (.int .i64 (k : Int)) ∧ w'.cell? ⟨b, o + k * 5, none⟩ = some (.slice ka kl kc) ∧ w'.cell? ⟨b, o + k * 5 + 1, none⟩ = some (.int .i64 x.seq) ∧ w'.cell? ⟨b, o + k * 5 + 2, none⟩ = some (.bool x.gone) ∧ w'.cell? ⟨b, o + k * 5 + 3, none⟩ = some (.int .i64 x.till) ∧ w'.cell? ⟨b, o + k * 5 + 4, none⟩ = some (.slice va vl vc)) (first | exact ⟨(HF.out _ HB5.out.drew).1.1, (HF.out _ HB5.out.drew).1.2.1, (HF.out _ HB5.out.drew).2.1⟩ | exact ⟨(HF.out _ (HB5.out.drew.alloc HB5.out.drew.size _)).1.1, (HF.out _ (HB5.out.drew.alloc HB5.out.drew.size _)).1.2.1, (HF.out _ (HB5.out.drew.alloc HB5.out.drew.size _)).2.1⟩) (fail)
  obtain ⟨V, hV⟩ : ∃ z, z = (w5.alloc (.cells #[.slice ka kl kc, .int .i64 x.seq, .bool x.gone, .int .i64 x.till, .slice va vl vc] 35)).drew := ⟨_, rfl⟩
  have HVB : Hid (Below W.heap.size W V) := by show Below _ _ _; rw [hV]; exact (HB5.out.alloc HB5.out.size _).drew
  have hq : V.heap[w5.heap.size]? = some (.cells #[.slice ka kl kc, .int .i64 x.seq, .bool x.gone, .int .i64 x.till, .slice va vl vc] 35) := by rw [hV]; exact heap_alloc_new w5 _
  have hsz : w5.heap.size < V.heap.size := by rw [hV]; simp
  rw [show (w5.alloc (.cells #[.slice ka kl kc, .int .i64 x.seq, .bool x.gone, .int .i64 x.till, .slice va vl vc] 35)).drew = V from hV.symm]
  clear hV
  obtain ⟨⟨v0, v1, v2⟩, -, v3⟩ := HF.out V HVB.out
  have HHQ := hidM (And.intro hq hsz)
  clear hq hsz
  have hpw := HI.out.1.lt
  have hk62 : k ≤ 2 ^ 60 := by omega
  have hp5 : p < w5.heap.size := by have := HI.out.2.1.size; have := HB5.out.size; omega
  have hw5 : w.heap.size < w5.heap.size := by have := HI.out.2.2; have := HB5.out.size; omega
  go_upto_region 5 with fail
  obtain ⟨X, hX⟩ : ∃ z, z = V.setCell ⟨p, 1, none⟩ (.int .i64 ((k : Int) + 1)) := ⟨_, rfl⟩
  rw [← hX]
  obtain ⟨hq, hsz⟩ := HHQ.out
  have hne : w5.heap.size ≠ p := by omega
  have hnr : w.heap.size ≠ p := by omega
  have q0 : X.cell? ⟨w5.heap.size, 0, none⟩ = some (.slice ka kl kc) := by rw [hX, cell_set_other _ _ _ _ _ _ hne, cell_of hq]; rfl
  have q1 : X.cell? ⟨w5.heap.size, 1, none⟩ = some (.int .i64 x.seq) := by rw [hX, cell_set_other _ _ _ _ _ _ hne, cell_of hq]; rfl
  have q2 : X.cell? ⟨w5.heap.size, 2, none⟩ = some (.bool x.gone) := by rw [hX, cell_set_other _ _ _ _ _ _ hne, cell_of hq]; rfl
  have q3 : X.cell? ⟨w5.heap.size, 3, none⟩ = some (.int .i64 x.till) := by rw [hX, cell_set_other _ _ _ _ _ _ hne, cell_of hq]; rfl
  have q4 : X.cell? ⟨w5.heap.size, 4, none⟩ = some (.slice va vl vc) := by rw [hX, cell_set_other _ _ _ _ _ _ hne, cell_of hq]; rfl
  have hXs : X.heap.size = V.heap.size := by rw [hX]; simp
  have hRX : X.heap[w.heap.size]? = some (.cells #[.slice none 0 0, .int .i64 0, .bool false, .int .i64 0, .slice none 0 0] 35) := by rw [hX, hset_other _ _ _ _ _ hnr]; exact v3
  have HRC : Hid (∀ wy, Below X.heap.size X wy → (wy.cell? ⟨w.heap.size, 0, none⟩ = some (.slice none 0 0) ∧ wy.cell? ⟨w.heap.size, 1, none⟩ = some (.int .i64 0) ∧ wy.cell? ⟨w.heap.size, 2, none⟩ = some (.bool false) ∧ wy.cell? ⟨w.heap.size, 3, none⟩ = some (.int .i64 0) ∧ wy.cell? ⟨w.heap.size, 4, none⟩ = some (.slice none 0 0)) ∧ ∀ j, wy.frozen? ⟨w.heap.size, j, none⟩ = false) := fun wy hb => by
    have e : wy.heap[w.heap.size]? = some (.cells #[.slice none 0 0, .int .i64 0, .bool false, .int .i64 0, .slice none 0 0] 35) := by rw [hb.block _ (by omega)]; exact hRX
    refine ⟨⟨?_, ?_, ?_, ?_, ?_⟩, fun j => by simp [World.frozen?, e]⟩
    all_goals (rw [cell_of e]; rfl)
  have HPX : Hid (Below p w X ∧ Below w1.heap.size w1 X ∧ ItM X p (some ⟨b, o, none⟩) n c (k + 1) ∧ w.heap.size < X.heap.size) := by
    have e1 : Below w.heap.size w V := HI.out.2.1.trans (HVB.out.mono (by have := HI.out.2.2; omega))
    have e2 : Below p w V := e1.mono (Nat.le_of_lt hpw)
    have e3 : Below p w X := by
      rw [hX]
      exact e2.grown (hp_gset _ _ _ _) (by have := e2.size; omega) (fun z hz => by simp only [Option.some.injEq] at hz; omega)
    refine ⟨e3, ?_, ?_, by omega⟩
    · have := HB.out.2.1.trans e3
      rw [← HB.out.1]
      exact this
    · have := (HI.out.1.later e1).set (k + 1)
      rw [hX]
      exact this
  have HCP : Hid (Calls Try.prog 30 #[.agg #[.slice ka kl kc, .int .i64 x.seq, .bool x.gone, .int .i64 x.till, .slice va vl vc]] X fun r w' => ∃ ka' kc' va' vc', r = .returned (.agg #[.slice ka' kl kc', .int .i64 x.seq, .bool x.gone, .int .i64 x.till, .slice va' vl vc']) ∧ Sl w' ka' kl kc' x.key ∧ Sl w' va' vl vc' x.val ∧ (∀ b, Refs (.slice ka' kl kc') b → X.heap.size ≤ b) ∧ (∀ b, Refs (.slice va' vl vc') b → X.heap.size ≤ b) ∧ Below X.heap.size X w') := by
    have := copied_t (e := x) (HS.out.1.later HPX.out.2.1) (HS.out.2.later HPX.out.2.1) HB.out.2.2.1 HB.out.2.2.2
    unfold entA at this
    rw [← HKV.out.1, ← HKV.out.2] at this
    exact this
  clear v0 v1 v2 v3 hq hRX hX hne hnr hXs hsz hp5 hw5 hk1 hk2 hk62 hpw
  go_wp2_with (go_at_call 30; refine HCP.out.mono ?_; rintro r Y ⟨ka', kc', va', vc', rfl, s1, s2, g1, g2, hb6⟩; have HY := hidM (And.intro s1 (And.intro s2 (And.intro g1 (And.intro g2 hb6)))); obtain ⟨⟨z0, z1, z2, z3, z4⟩, zf⟩ := HRC.out Y hb6; have f0 := zf 0; have f1 := zf 1; have f2 := zf 2; have f3 := zf 3; have f4 := zf 4; clear s1 s2 g1 g2 hb6 zf)
  obtain ⟨y0, y1, y2, y3, y4⟩ := set5_c z0 z1 z2 z3 z4 (.slice ka' kl kc') (.int .i64 x.seq) (.bool x.gone) (.int .i64 x.till) (.slice va' vl vc')
  have hf := set5_far Y w.heap.size (.slice ka' kl kc') (.int .i64 x.seq) (.bool x.gone) (.int .i64 x.till) (.slice va' vl vc')
  have hg := set5_grown Y w.heap.size (.slice ka' kl kc') (.int .i64 x.seq) (.bool x.gone) (.int .i64 x.till) (.slice va' vl vc')
  generalize (((((Y.setCell ⟨w.heap.size, 0, none⟩ (.slice ka' kl kc')).setCell ⟨w.heap.size, 1, none⟩ (.int .i64 x.seq)).setCell ⟨w.heap.size, 2, none⟩ (.bool x.gone)).setCell ⟨w.heap.size, 3, none⟩ (.int .i64 x.till)).setCell ⟨w.heap.size, 4, none⟩ (.slice va' vl vc')) = X5 at y0 y1 y2 y3 y4 hf hg ⊢
  have hpw := HI.out.1.lt
  have hkl := HKV.out
  refine bodyPost_ret (v := .tuple #[.agg #[.slice ka' kl kc', .int .i64 x.seq, .bool x.gone, .int .i64 x.till, .slice va' vl vc'], .bool true]) (by simp [results, Try.results19, go_sem, y0, y1, y2, y3, y4]) rfl ⟨ka', va', kc', vc', x, HX.out, by rw [hkl.1, hkl.2], ?_, ?_, ?_, ?_⟩
  · rw [← hkl.1]; exact HY.out.1.keep fun b hr => hf b (by have := HY.out.2.2.1 b hr; have := HPX.out.2.2.2; omega)
  · rw [← hkl.2]; exact HY.out.2.1.keep fun b hr => hf b (by have := HY.out.2.2.2.1 b hr; have := HPX.out.2.2.2; omega)
  · have := HPX.out.2.2.1.later HY.out.2.2.2.2
    unfold ItM at this ⊢
    rw [hf p (by omega)]
    exact this
  · have e1 := HPX.out.1.trans (HY.out.2.2.2.2.mono (by have := HPX.out.2.2.2; omega))
    exact e1.grown hg (by have := e1.size; omega) (fun z hz => by simp only [Option.some.injEq] at hz; omega)
end Go.Proofs.Ytnoackenjfpcmaa
