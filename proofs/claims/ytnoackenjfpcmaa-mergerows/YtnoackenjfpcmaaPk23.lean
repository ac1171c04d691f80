import Derived.Test.YtnoackenjfpcmaaPk03
import Derived.Test.YtnoackenjfpcmaaPk12
import Derived.Test.YtnoackenjfpcmaaPk16
import Derived.Test.YtnoackenjfpcmaaPk22
/- The law's sorted. -/
namespace Go.Proofs.Ytnoackenjfpcmaa
open Go.RowKit
set_option linter.unusedVariables false
set_option linter.unusedSimpArgs false

/-- What a row has come to behind j entries. -/
def sJ (k j : Nat) (l : List EntV) : List EntV := if k < 20 then ((l.take j).take 30).foldl putS [] else []
theorem sJ_ord (k j : Nat) (l : List EntV) : ordE (sJ k j l) := by
  unfold sJ; split
  · exact foldS_ord _ _ List.Pairwise.nil
  · exact List.Pairwise.nil
theorem sJ_len (k j : Nat) (l : List EntV) : (sJ k j l).length ≤ 30 := by
  unfold sJ; split
  · have h := foldS_len ((l.take j).take 30) []
    have : ((l.take j).take 30).length ≤ 30 := by rw [List.length_take]; omega
    simp at h
    omega
  · simp
theorem sJ_step {k j : Nat} {l : List EntV} {e : EntV} (h : l[j]? = some e) (hk : k < 20) (hj : j < 30) : sJ k (j + 1) l = putS (sJ k j l) e := by
  unfold sJ
  obtain ⟨hl, rfl⟩ := List.getElem?_eq_some_iff.1 h
  rw [if_pos hk, if_pos hk, List.take_take, List.take_take, show min 30 (j + 1) = j + 1 by omega, show min 30 j = j by omega, List.take_add_one, List.getElem?_eq_getElem hl, List.foldl_append]
  rfl
theorem sJ_stay {k j : Nat} (l : List EntV) (h : ¬ (k < 20 ∧ j < 30)) : sJ k (j + 1) l = sJ k j l := by
  unfold sJ
  by_cases hk : k < 20
  · rw [if_pos hk, if_pos hk, List.take_take, List.take_take, show min 30 (j + 1) = 30 by omega, show min 30 j = 30 by omega]
  · rw [if_neg hk, if_neg hk]
theorem sJ_end (k : Nat) (l : List EntV) : sJ k l.length l = if k < 20 then srtL l else [] := by
  unfold sJ srtL
  rw [List.take_length]
set_option maxHeartbeats 8000000 in
set_option maxRecDepth 100000 in
theorem sorted16_t {w : World} {ao : Option Addr} {n cap : Nat} {rs : List (List EntV)} (h : ErRow w ao n cap rs) (hn : n ≤ 1000000) :
    Calls Try.prog 11 #[.slice ao n cap] w fun e w' => ∃ a' c', e = .returned (.slice a' n c') ∧ ErRow w' a' n c' (srtR 0 rs) ∧ Below w.heap.size w w' := by
  have H0 := hid h
  obtain ⟨SR, hSR⟩ : ∃ S, S = srtR 0 rs := ⟨_, rfl⟩
  have HSR := hid hSR
  have HLN : Hid (SR.length = n ∧ rs.length = n) := ⟨by rw [hSR, srtR_len]; exact h.len.1, h.len.1⟩
  rw [← hSR]
  clear h hSR
  go_enter Try.func11, Try.ntmps11
  go_wp2_with fail
  go_loopg [3, 11] n (fun kx s3 s11 wr => ∃ (k : Nat) (xs : List Value), s11 = .int .i64 k ∧ k + kx = n ∧ Hid (RowS slvE w.heap.size wr s3 xs ∧ Rws (fun b => b < w.heap.size) wr xs (SR.take k) ∧ Below w.heap.size w wr))
  case atStart => exact ⟨0, [], rfl, by omega, RowS.nil _ _, ⟨rfl, fun j x l h1 h2 => by simp at h1⟩, Below.refl _ _⟩
  case round =>
    obtain ⟨k, xs, rfl, hg, HK⟩ := hrel
    obtain ⟨oa, on, oc, hoe, hon⟩ : ∃ a n c, u3 = .slice a n c ∧ n = xs.length := by
      obtain ⟨a, c, e, _⟩ := HK.out.1.rs
      exact ⟨a, _, c, e, rfl⟩
    subst hoe
    have HON := hid hon
    clear hon
    by_cases hk : k < n
    · have hk' : (k : Int) < (n : Int) := by omega
      obtain ⟨l, hl⟩ : ∃ l, rs[k]? = some l := ⟨_, List.getElem?_eq_getElem (by have := HLN.out; omega)⟩
      obtain ⟨b, off, la, lc, rfl, c0, hrl⟩ := H0.out.at' k l hl
      replace c0 := cell_later HK.out.2.2 c0
      have HSK : Hid (SR.take (k + 1) = SR.take k ++ [if k < 20 then srtL l else []]) := by
        have h1 := srtR_at (i := 0) hl
        rw [← HSR.out, Nat.zero_add] at h1
        obtain ⟨hs, e⟩ := List.getElem?_eq_some_iff.1 h1
        show _ = _
        rw [List.take_add_one, List.getElem?_eq_getElem hs, e]; rfl
      have HRL : Hid (RSG entE (fun b => b < w.heap.size) w la l.length lc l) := RSG.any hrl
      have hll : l.length ≤ 2 ^ 63 - 1 := by have := hrl.len; unfold maxLen at this; omega
      have HGK := hid (And.intro hg hk)
      obtain ⟨L, hL⟩ : ∃ L, L = l.length := ⟨_, rfl⟩
      have HLE := hid hL
      rw [← hL] at c0 hll
      obtain ⟨W0, hW0⟩ : ∃ W0, W0 = wr := ⟨_, rfl⟩
      have HK0 : Hid (RowS slvE w.heap.size W0 (.slice oa on oc) xs ∧ Rws (fun b => b < w.heap.size) W0 xs (SR.take k) ∧ Below w.heap.size w W0) := by rw [hW0]; exact HK.out
      have HW00 : Hid (Below W0.heap.size W0 wr) := by rw [hW0]; exact Below.refl _ _
      have HBW : Hid (∀ wx, Below W0.heap.size W0 wx → Below w.heap.size w wx) := fun wx hb => HK0.out.2.2.trans (hb.mono HK0.out.2.2.size)
      have hk62 : k ≤ 1000000 := by omega
      clear hg hk hl hrl hL HK hW0
      go_wp2_with fail
      go_loopg [6, 18] L (fun kx s6 s18 wx => ∃ (j : Nat) (sa : Option Addr) (sn sc : Nat), s18 = .int .i64 j ∧ s6 = .slice sa sn sc ∧ j + kx = L ∧ Hid (sn = (sJ k j l).length ∧ RSG entE (fun b => b < w.heap.size) wx sa sn sc (sJ k j l) ∧ (∀ b off, sa = some ⟨b, off, none⟩ → W0.heap.size ≤ b) ∧ Below W0.heap.size W0 wx))
      case atStart =>
        have e0 : sJ k 0 l = [] := by unfold sJ; split <;> simp
        exact ⟨0, none, 0, 0, rfl, rfl, by omega, by rw [e0]; rfl, by rw [e0]; exact ⟨[], ⟨rfl, fun _ => ⟨rfl, rfl⟩, Nat.le_refl _, Nat.zero_le _, rfl, fun j u hu => by simp at hu⟩, fun u hu => by cases hu⟩, (fun b off q => by cases q), HW00.out⟩
      case round =>
        obtain ⟨j, sa, sn, sc, rfl, rfl, hg2, HJ⟩ := hrel
        by_cases hj : j < L
        · have hj' : (j : Int) < (L : Int) := by omega
          obtain ⟨e, he⟩ : ∃ e, l[j]? = some e := ⟨_, List.getElem?_eq_getElem (by have := HLE.out; omega)⟩
          obtain ⟨b2, off2, ka, kc, va, vc, hla, r0, r1, r2, r3, r4, hM, -, gq⟩ := RSG.ent HRL.out he
          subst hla
          have bw := HBW.out _ HJ.out.2.2.2
          replace r0 := cell_later bw r0
          replace r1 := cell_later bw r1
          replace r2 := cell_later bw r2
          replace r3 := cell_later bw r3
          replace r4 := cell_later bw r4
          have hj62 : j ≤ 2 ^ 63 - 2 := by omega
          have HR := hid (And.intro hg2 (And.intro hj he))
          have hb1 : Below wr.heap.size wr (wr.alloc (.cells #[.slice ka e.key.length kc, .int .i64 e.seq, .bool e.gone, .int .i64 e.till, .slice va e.val.length vc] 35)) := (Below.refl _ _).alloc (Nat.le_refl _) _
          have hB1 := HJ.out.2.2.2.trans (hb1.mono HJ.out.2.2.2.size)
          have HPU : Hid (Calls Try.prog 24 #[.slice sa sn sc, .agg #[.slice ka e.key.length kc, .int .i64 e.seq, .bool e.gone, .int .i64 e.till, .slice va e.val.length vc]] (wr.alloc (.cells #[.slice ka e.key.length kc, .int .i64 e.seq, .bool e.gone, .int .i64 e.till, .slice va e.val.length vc] 35)) fun r w' => ∃ va2 vn2 vc2 ok, r = .returned (.tuple #[.slice va2 vn2 vc2, .bool ok]) ∧ vn2 = (putS (sJ k j l) e).length ∧ RSG entE (fun b => b < w.heap.size) w' va2 vn2 vc2 (putS (sJ k j l) e) ∧ (∀ b off, va2 = some ⟨b, off, none⟩ → W0.heap.size ≤ b) ∧ Below W0.heap.size W0 w') := by
            refine (rputE_any (HJ.out.2.1.later hb1) (El.later (E := entE) hM (HBW.out _ hB1)) (fun b hb => Nat.lt_of_lt_of_le hb (HBW.out _ hB1).size) gq (by have := sJ_len k j l; have := HJ.out.1; omega) (sJ_ord k j l)).mono ?_
            rintro r w' ⟨hb2, hh⟩
            have hB2 := hB1.trans (hb2.mono hB1.size)
            rcases hh with ⟨hq, rfl⟩ | ⟨hq, v, rfl, hr⟩
            · have ep : putS (sJ k j l) e = sJ k j l := by unfold putS; rw [if_pos hq]
              rw [ep]
              exact ⟨sa, sn, sc, false, rfl, HJ.out.1, (HJ.out.2.1.later hb1).later hb2, HJ.out.2.2.1, hB2⟩
            · have ep : putS (sJ k j l) e = putE (sJ k j l) e := by unfold putS; rw [if_neg (by rw [hq]; simp)]
              rw [ep]
              obtain ⟨va2, vc2, hv, hrg⟩ := hr.rsg
              refine ⟨va2, _, vc2, true, by rw [hv], rfl, hrg, fun b off ea => ?_, hB2⟩
              have ho : v.ownBlock = some b := by rw [hv, ea]; rfl
              have := (hr.own_lt ho).1
              exact Nat.le_trans hB1.size this
          have HBN : Hid (Below W0.heap.size W0 (wr.alloc (.cells #[.slice ka e.key.length kc, .int .i64 e.seq, .bool e.gone, .int .i64 e.till, .slice va e.val.length vc] 35))) := hB1
          have HSt : Hid (RSG entE (fun b => b < w.heap.size) (wr.alloc (.cells #[.slice ka e.key.length kc, .int .i64 e.seq, .bool e.gone, .int .i64 e.till, .slice va e.val.length vc] 35)) sa sn sc (sJ k j l)) := HJ.out.2.1.later hb1
          have HST := hid (fun (h1 : k < 20) (h2 : j < 30) => sJ_step he h1 h2)
          have t0 : (wr.alloc (.cells #[.slice ka e.key.length kc, .int .i64 e.seq, .bool e.gone, .int .i64 e.till, .slice va e.val.length vc] 35)).cell? ⟨wr.heap.size, 0, none⟩ = some (.slice ka e.key.length kc) := by rw [cell_of (heap_alloc_new wr _)]; rfl
          have t1 : (wr.alloc (.cells #[.slice ka e.key.length kc, .int .i64 e.seq, .bool e.gone, .int .i64 e.till, .slice va e.val.length vc] 35)).cell? ⟨wr.heap.size, 1, none⟩ = some (.int .i64 e.seq) := by rw [cell_of (heap_alloc_new wr _)]; rfl
          have t2 : (wr.alloc (.cells #[.slice ka e.key.length kc, .int .i64 e.seq, .bool e.gone, .int .i64 e.till, .slice va e.val.length vc] 35)).cell? ⟨wr.heap.size, 2, none⟩ = some (.bool e.gone) := by rw [cell_of (heap_alloc_new wr _)]; rfl
          have t3 : (wr.alloc (.cells #[.slice ka e.key.length kc, .int .i64 e.seq, .bool e.gone, .int .i64 e.till, .slice va e.val.length vc] 35)).cell? ⟨wr.heap.size, 3, none⟩ = some (.int .i64 e.till) := by rw [cell_of (heap_alloc_new wr _)]; rfl
          have t4 : (wr.alloc (.cells #[.slice ka e.key.length kc, .int .i64 e.seq, .bool e.gone, .int .i64 e.till, .slice va e.val.length vc] 35)).cell? ⟨wr.heap.size, 4, none⟩ = some (.slice va e.val.length vc) := by rw [cell_of (heap_alloc_new wr _)]; rfl
          obtain ⟨PS, hPS⟩ : ∃ P, P = putS (sJ k j l) e := ⟨_, rfl⟩
          rw [← hPS] at HPU HST
          clear hPS hM gq bw hb1 hB1 hg2 hj he
          generalize e.key.length = kl at r0 t0 t1 t2 t3 t4 HPU HBN HSt
          generalize e.seq = sq at r1 t0 t1 t2 t3 t4 HPU HBN HSt
          generalize e.gone = gn at r2 t0 t1 t2 t3 t4 HPU HBN HSt
          generalize e.till = tl at r3 t0 t1 t2 t3 t4 HPU HBN HSt
          generalize e.val.length = vl at r4 t0 t1 t2 t3 t4 HPU HBN HSt
          by_cases z1 : k < 20
          · have z1' : (k : Int) < 20 := by omega
            by_cases z2 : j < 30
            · have z2' : (j : Int) < 30 := by omega
              have HS2 := hid (HST.out z1 z2)
              clear z1 z2
              go_wp2_with (go_at_call 24; refine HPU.out.mono ?_; rintro r w5 ⟨va2, vn2, vc2, ok, rfl, hv2⟩; have HV := hid hv2; clear hv2)
              go_roundg (L - (j + 1))
              case measure => have := HR.out; omega
              case rel => exact ⟨j + 1, va2, vn2, vc2, by go_num, rfl, by have := HR.out; omega, by rw [HS2.out]; exact HV.out⟩
            · have z2' : ¬ (j : Int) < 30 := by omega
              have HS2 := hid (sJ_stay (k := k) (j := j) l (fun q => z2 q.2))
              clear z1 z2
              go_wp2_with fail
              go_roundg (L - (j + 1))
              case measure => have := HR.out; omega
              case rel => exact ⟨j + 1, sa, sn, sc, by go_num, rfl, by have := HR.out; omega, by rw [HS2.out]; exact ⟨HJ.out.1, HSt.out, HJ.out.2.2.1, HBN.out⟩⟩
          · have z1' : ¬ (k : Int) < 20 := by omega
            have HS2 := hid (sJ_stay (k := k) (j := j) l (fun q => z1 q.1))
            clear z1
            go_wp2_with fail
            go_roundg (L - (j + 1))
            case measure => have := HR.out; omega
            case rel => exact ⟨j + 1, sa, sn, sc, by go_num, rfl, by have := HR.out; omega, by rw [HS2.out]; exact ⟨HJ.out.1, HSt.out, HJ.out.2.2.1, HBN.out⟩⟩
        · have hj' : ¬ (j : Int) < (L : Int) := by omega
          obtain rfl : j = L := by omega
          have HE : Hid (sJ k j l = if k < 20 then srtL l else []) := by
            show _ = _
            rw [HLE.out]; exact sJ_end k l
          obtain ⟨X, hX⟩ : ∃ X, X = if k < 20 then srtL l else [] := ⟨_, rfl⟩
          rw [← hX] at HE HSK
          rw [HE.out] at HJ
          have hb1 : Below wr.heap.size wr (wr.alloc (.cells #[.slice sa sn sc] 27)) := (Below.refl _ _).alloc (Nat.le_refl _) _
          have hB1 := HJ.out.2.2.2.trans (hb1.mono HJ.out.2.2.2.size)
          have hap : RowS slvE w.heap.size (wr.alloc (.cells #[.slice sa sn sc] 27)) (.slice oa on oc) xs ∧ RSu slvE (wr.alloc (.cells #[.slice sa sn sc] 27)) (some ⟨wr.heap.size, 0, none⟩) 1 1 [.slice sa sn sc] [.slice sa sn sc] ∧ (∀ u ∈ [Value.slice sa sn sc], ∀ b, Refs u b → (Value.slice oa on oc).ownBlock ≠ some b) ∧ w.heap.size ≤ (wr.alloc (.cells #[.slice sa sn sc] 27)).heap.size ∧ Rws (fun b => b < w.heap.size) (wr.alloc (.cells #[.slice sa sn sc] 27)) xs (SR.take k) ∧ RSG entE (fun b => b < w.heap.size) (wr.alloc (.cells #[.slice sa sn sc] 27)) sa sn sc X ∧ Below w.heap.size w (wr.alloc (.cells #[.slice sa sn sc] 27)) := by
            refine ⟨HK0.out.1.later hB1, rs_one (E := slvE) ⟨rfl, rfl, fun b hr => ?_⟩, fun u hu b hr e => ?_, (HBW.out _ hB1).size, HK0.out.2.1.later hB1, HJ.out.2.1.later hb1, HBW.out _ hB1⟩
            · obtain ⟨off3, l3, c3, e3, h3⟩ := hr
              simp only [Value.slice.injEq] at e3
              obtain ⟨rfl, rfl, rfl⟩ := e3
              obtain ⟨us, ⟨q1, q2, q3, q4, q5, q6⟩, -⟩ := HJ.out.2.1
              have hlu := q5.len
              have h5 : entE.size = 5 := rfl
              rw [h5, q1] at hlu
              obtain ⟨b', off', e', hc⟩ := q6 0 _ (List.getElem?_eq_getElem (by omega))
              simp only [Option.some.injEq, Addr.mk.injEq, and_true] at e'
              obtain ⟨rfl, rfl⟩ := e'
              exact World.block_lt_of_cell? _ _ hc
            · rw [List.mem_singleton.1 hu] at hr
              obtain ⟨off3, l3, c3, e3, h3⟩ := hr
              simp only [Value.slice.injEq] at e3
              obtain ⟨rfl, rfl, rfl⟩ := e3
              have k1 := HJ.out.2.2.1 b off3 rfl
              have k2 := (HK0.out.1.own_lt e).2
              omega
          have HAP := hid hap
          have HXL : Hid (sn = X.length) := HJ.out.1
          have HGK2 := HGK
          clear hX hb1 hB1 hap hg2 hj HJ
          go_wp2_with (at_builtin; refine wpList_appS slvE (t := 22) (z := .slice none 0 0) (bytes := 24) Try.underlying22 slvE_info rfl (by decide) rfl (.tmp 36) (.tmp 38) rfl rfl HAP.out.1 rfl HAP.out.2.1 HAP.out.2.2.1 (by have := HAP.out.2.2.2.2.1.1; rw [this, List.length_take]; omega) (by have := HAP.out.2.2.2.2.1.1; rw [this, List.length_take]; omega) HAP.out.2.2.2.1 ?_; intro v9 w9 r9 g9 m9)
          go_roundg (n - (k + 1))
          case measure => have := HGK2.out; omega
          case rel =>
            have hGo : ∀ b, b < w.heap.size → some b ≠ (Value.slice oa on oc).ownBlock := fun b hb e => by have := (HAP.out.1.own_lt e.symm).1; omega
            have hR := HAP.out.2.2.2.2.1.grown g9 hGo fun x hx b hr e => by
              obtain ⟨us, _, hlay, hsep⟩ := HAP.out.1
              obtain rfl := lay_slv hlay
              exact hsep x hx b hr e.symm
            have hS := HAP.out.2.2.2.2.2.1.grown (by decide) g9 hGo fun b off ea hn0 e => HAP.out.2.2.1 (.slice sa sn sc) (List.mem_singleton.2 rfl) b ⟨off, sn, sc, by rw [ea], hn0⟩ e.symm
            have hsn : sn = X.length := HXL.out
            subst hsn
            exact ⟨k + 1, xs ++ [.slice sa X.length sc], by go_num, by have := HGK2.out; omega, r9, by rw [HSK.out]; exact hR.snoc hS, HAP.out.2.2.2.2.2.2.grown g9 HAP.out.2.2.2.1 fun z hz => (HAP.out.1.own_lt hz).1⟩
    · have hk' : ¬ (k : Int) < (n : Int) := by omega
      have HF : Hid (Rws (fun b => b < w.heap.size) wr xs SR) := by
        have := HK.out.2.1
        rwa [List.take_of_length_le (by have := HLN.out; omega)] at this
      have hfin := HF.out.er HK.out.1
      have HFI := hid hfin
      clear hg hk hfin
      go_wp2_with fail
      refine bodyPost_ret (v := .slice oa on oc) (by simp [results, Try.results11, go_sem]) rfl ?_
      obtain ⟨a', c', e, hr⟩ := HFI.out
      rw [HLN.out.1] at e hr
      exact ⟨a', c', by rw [e], hr, HK.out.2.2⟩
end Go.Proofs.Ytnoackenjfpcmaa

/- The laws of rows as one: what they share. -/
namespace Go.Proofs.Ytnoackenjfpcmaa
open Go.RowKit
set_option linter.unusedVariables false
set_option linter.unusedSimpArgs false

theorem srtR_mem : ∀ (i : Nat) (rs : List (List EntV)), ∀ l ∈ srtR i rs, ∀ e ∈ l, ∃ l0 ∈ rs, e ∈ l0
  | _, [], l, h, e, he => by cases h
  | i, l' :: rs, l, h, e, he => by
    unfold srtR at h
    rcases List.mem_cons.1 h with rfl | h
    · split at he
      · exact ⟨l', List.mem_cons_self .., srtL_mem he⟩
      · cases he
    · obtain ⟨l0, h1, h2⟩ := srtR_mem (i + 1) rs l h e he
      exact ⟨l0, List.mem_cons_of_mem _ h1, h2⟩
theorem sumR_le {rs : List (List EntV)} {c : Nat} (h : ∀ l ∈ rs, l.length ≤ c) : sumR rs ≤ rs.length * c := by
  induction rs with
  | nil => simp [sumR]
  | cons l r ih =>
    have h1 := ih fun l' hl => h l' (List.mem_cons_of_mem _ hl)
    have h2 := h l (List.mem_cons_self ..)
    unfold sumR at *
    rw [List.map_cons, List.sum_cons, List.length_cons, Nat.add_mul]
    omega
/-- What is light, brought in order. -/
theorem lit_srt {rs : List (List EntV)} (h : litW 0 0 rs = true) : Szr (srtR 0 rs) ∧ sumR (srtR 0 rs) ≤ 2100 ∧ (srtR 0 rs).length = rs.length ∧ rs.length ≤ 70 ∧ (∀ l ∈ srtR 0 rs, ordE l) := by
  obtain ⟨h1, h2, h3⟩ := litW_ok h
  have hl : rs.length ≤ 70 := by
    rcases h1 with rfl | h1
    · simp
    · omega
  have hs := sumR_le (srtR_small 0 rs)
  rw [srtR_len] at hs
  refine ⟨⟨by rw [srtR_len]; omega, fun l hl => by have := srtR_small 0 rs l hl; omega, fun l hl e he => ?_⟩, by omega, srtR_len 0 rs, hl, srtR_ord 0 rs⟩
  obtain ⟨l0, q1, q2⟩ := srtR_mem 0 rs l hl e he
  have := (h3 l0 q1).2 e q2
  omega
/-- What is light may be merged or not, but is small. -/
theorem lit_szr {rs : List (List EntV)} (h : litW 0 0 rs = true) : Szr rs := by
  obtain ⟨h1, h2, h3⟩ := litW_ok h
  have hl : rs.length ≤ 70 := by
    rcases h1 with rfl | h1
    · simp
    · omega
  refine ⟨by omega, fun l hl => by have := (h3 l hl).1; omega, fun l hl e he => ?_⟩
  have := (h3 l hl).2 e he
  omega
theorem mrC_ok {rs : List (List EntV)} (h : ∀ l ∈ rs, ordE l) (h1 : rs.length ≤ 64) (h2 : sumR rs ≤ 40000) : mrC rs = 0 := by
  unfold mrC
  rw [if_pos (ord_all h), if_neg (by omega)]
theorem mrV_ok {rs : List (List EntV)} (h : mrC rs = 0) : mrV rs = mrgE rs := by unfold mrV; rw [if_pos h]
theorem sumR_drop : ∀ (rs : List (List EntV)) (k : Nat), sumR (rs.drop k) ≤ sumR rs
  | [], k => by simp [sumR]
  | l :: rs, 0 => by simp
  | l :: rs, k + 1 => by
    have := sumR_drop rs k
    rw [List.drop_succ_cons]
    have e : sumR (l :: rs) = l.length + sumR rs := by unfold sumR; simp
    omega
theorem Szr.sub {rs rs' : List (List EntV)} (h : Szr rs) (h1 : rs'.length ≤ rs.length) (h2 : ∀ l ∈ rs', l ∈ rs) : Szr rs' :=
  ⟨Nat.le_trans h1 h.len, fun l hl => h.row l (h2 l hl), fun l hl => h.ent l (h2 l hl)⟩
theorem mrgE_small {rs : List (List EntV)} (h : Szr rs) : ∀ e ∈ mrgE rs, e.key.length ≤ 1000000 ∧ e.val.length ≤ 1000000 := fun e he => by
  have := (mrgE_perm rs).mem_iff.1 he
  obtain ⟨l, h1, h2⟩ := List.mem_flatten.1 this
  exact h.ent l h1 e h2
theorem elem22 : Try.prog.elem 22 = 27 := by kernel_rfl
theorem under22 : Try.prog.underlying 22 = some (.slice (Try.prog.elem 22)) := by rw [elem22]; exact Try.underlying22
theorem run_headW (w : World) (ao : Option Addr) (len cap j : Nat) (h2 : j ≤ cap) : (Instr.slice 22 (.slice ao len cap) none (some (.int .i64 (j : Int))) none).run Try.prog w = .ok (.slice (cutS ao cap 0 1) j cap) w := by
  rw [run_slice_h (P := Try.prog) (w := w) 22 ao len cap under22 .i64 (j : Int) (by omega) (by omega), elem22, Try.sizeOf27]
  simp only [Result.andThen, Int.toNat_natCast]
  rw [sliced_cutS _ _ _ _ _ (by omega)]
  rfl
theorem run_fromW (w : World) (ao : Option Addr) (len cap i : Nat) (h1 : i ≤ len) (h2 : len ≤ cap) : (Instr.slice 22 (.slice ao len cap) (some (.int .i64 (i : Int))) none none).run Try.prog w = .ok (.slice (cutS ao cap i 1) (len - i) (cap - i)) w := by
  rw [run_slice_l (P := Try.prog) (w := w) 22 ao len cap under22 .i64 (i : Int) (by omega) (by omega), elem22, Try.sizeOf27]
  simp only [Result.andThen, Int.toNat_natCast]
  rw [sliced_cutS _ _ _ _ _ (by omega)]
theorem ErRow.head {w : World} {ao : Option Addr} {n cap : Nat} {rs : List (List EntV)} (h : ErRow w ao n cap rs) (j : Nat) (hj : j ≤ n) : ErRow w (cutS ao cap 0 1) j cap (rs.take j) := by
  have hl := h.len
  refine ⟨⟨by rw [List.length_take]; omega, by omega, hl.2.2⟩, fun e => ?_, fun k l hk => ?_⟩
  · have : ao = none := by
      unfold cutS at e
      by_cases q : cap - 0 = 0
      · rw [if_pos q] at e; exact e
      · rw [if_neg q] at e; simpa using e
    have := h.nil this
    omega
  · rw [List.getElem?_take] at hk
    split at hk
    · obtain ⟨b, off, la, lc, rfl, c0, hr⟩ := h.at' k l hk
      refine ⟨b, off, la, lc, ?_, c0, hr⟩
      unfold cutS
      rw [if_neg (by omega)]
      simp [Addr.add_lit]
    · cases hk
theorem ErRow.from {w : World} {ao : Option Addr} {n cap : Nat} {rs : List (List EntV)} (h : ErRow w ao n cap rs) (i : Nat) (hi : i ≤ n) : ErRow w (cutS ao cap i 1) (n - i) (cap - i) (rs.drop i) := by
  have hl := h.len
  refine ⟨⟨by rw [List.length_drop]; omega, by omega, by omega⟩, fun e => ?_, fun k l hk => ?_⟩
  · have : ao = none := by
      unfold cutS at e
      by_cases q : cap - i = 0
      · rw [if_pos q] at e; exact e
      · rw [if_neg q] at e; simpa using e
    have := h.nil this
    omega
  · rw [List.getElem?_drop] at hk
    have hkl := (List.getElem?_eq_some_iff.1 hk).1
    obtain ⟨b, off, la, lc, rfl, c0, hr⟩ := h.at' (i + k) l hk
    refine ⟨b, off + i, la, lc, ?_, by rw [Nat.add_assoc]; exact c0, hr⟩
    unfold cutS
    rw [if_neg (by omega)]
    simp [Addr.add_lit]
/-- Three rows in a row of one's own. -/
theorem er_three {w : World} {a1 a2 a3 : Option Addr} {c1 c2 c3 : Nat} {A B C : List EntV} (h1 : RS entE w a1 A.length c1 A) (h2 : RS entE w a2 B.length c2 B) (h3 : RS entE w a3 C.length c3 C) :
    ErRow (w.alloc (.cells #[.slice a1 A.length c1, .slice a2 B.length c2, .slice a3 C.length c3] 27)) (some ⟨w.heap.size, 0, none⟩) 3 3 [A, B, C] := by
  have hb : Below w.heap.size w (w.alloc (.cells #[.slice a1 A.length c1, .slice a2 B.length c2, .slice a3 C.length c3] 27)) := (Below.refl _ _).alloc (Nat.le_refl _) _
  have hn := heap_alloc_new w (.cells #[.slice a1 A.length c1, .slice a2 B.length c2, .slice a3 C.length c3] 27)
  refine ⟨⟨rfl, Nat.le_refl _, by unfold maxLen; omega⟩, (fun q => by cases q), fun k l hl => ?_⟩
  match k, hl with
  | 0, hl =>
    obtain rfl : A = l := by simpa using hl
    exact ⟨_, 0, _, _, rfl, by rw [cell_of hn]; rfl, h1.later hb⟩
  | 1, hl =>
    obtain rfl : B = l := by simpa using hl
    exact ⟨_, 0, _, _, rfl, by rw [cell_of hn]; rfl, h2.later hb⟩
  | 2, hl =>
    obtain rfl : C = l := by simpa using hl
    exact ⟨_, 0, _, _, rfl, by rw [cell_of hn]; rfl, h3.later hb⟩
  | k + 3, hl => simp at hl
theorem merge_any {w : World} {ao : Option Addr} {n cap : Nat} {rs : List (List EntV)} (h : ErRow w ao n cap rs) (hz : Szr rs) :
    Calls Try.prog 12 #[.slice ao n cap] w fun r w' => ∃ a c, r = .returned (.tuple #[.slice a (mrV rs).length c, .int .i64 (mrC rs : Nat)]) ∧ RS entE w' a (mrV rs).length c (mrV rs) ∧ Below w.heap.size w w' := by
  refine (merge_t h hz).mono ?_
  rintro r w' ⟨v, rfl, hr, hb⟩
  obtain ⟨a, c, rfl, hrs⟩ := hr.rs
  exact ⟨a, c, rfl, hrs, hb⟩
theorem merge_ok {w : World} {ao : Option Addr} {n cap : Nat} {rs : List (List EntV)} (h : ErRow w ao n cap rs) (hz : Szr rs) (h0 : mrC rs = 0) :
    Calls Try.prog 12 #[.slice ao n cap] w fun r w' => ∃ a c, r = .returned (.tuple #[.slice a (mrgE rs).length c, .int .i64 0]) ∧ RS entE w' a (mrgE rs).length c (mrgE rs) ∧ Below w.heap.size w w' := by
  have := merge_any h hz
  rw [h0, mrV_ok h0] at this
  exact this
/-- Entries in order, none twice, where no two neighbours are alike. -/
theorem ord_near {l : List EntV} (hw : l.Pairwise fun x y => ahead x y ≤ 0) (h : ∀ j (hj : j + 1 < l.length), ¬ (l[j].key = l[j + 1].key ∧ l[j].seq = l[j + 1].seq)) : ordE l :=
  ord_chain fun j hj => by
    have h1 := List.pairwise_iff_getElem.1 hw j (j + 1) (by omega) hj (by omega)
    have h2 := h j hj
    have h3 : ahead l[j] l[j + 1] ≠ 0 := fun e => h2 (ahead_zero.1 e)
    omega
end Go.Proofs.Ytnoackenjfpcmaa

/- A region that draws its order, of which each operation yields what is told of it in every later world: told once, whatever the order. -/
namespace Go.Proofs.Ytnoackenjfpcmaa
open Go.RowKit
set_option linter.unusedVariables false
set_option linter.unusedSimpArgs false

/-- Every edge that binds leads backwards: by reckoning. -/
def lowBR (ops : Array Oper) : Bool := (List.range ops.size).all fun i => match ops[i]? with
  | some o => o.after.all fun e => !Region.binds .any e || decide (e.on < i)
  | none => true

theorem lowBR_spec {ops : Array Oper} (h : lowBR ops = true) : ∀ (i : Nat) o, ops[i]? = some o → ∀ e ∈ o.after, Region.binds .any e = true → e.on < i := by
  intro i o ho e he hb
  have hi : i < ops.size := by
    rcases Nat.lt_or_ge i ops.size with k | k
    · exact k
    · simp [k] at ho
  unfold lowBR at h
  have h1 := List.all_eq_true.1 h i (List.mem_range.2 hi)
  rw [ho] at h1
  have h2 := (Array.all_eq_true_iff_forall_mem.1 h1) e he
  rw [hb] at h2
  simpa using h2

/-- The places that the operations write: one each, unlike one another, within the frame. -/
def dstOfR (ops : Array Oper) (i : Nat) : Nat := ((ops[i]?).bind (·.dst)).getD 0
def dstBR (ops : Array Oper) (n : Nat) : Bool := (ops.toList.all fun o => o.dst.isSome) && decide (((List.range ops.size).map (dstOfR ops)).Nodup) && ((List.range ops.size).all fun i => decide (dstOfR ops i < n))
theorem dstBR_spec {ops : Array Oper} {n : Nat} (h : dstBR ops n = true) : (∀ i o, ops[i]? = some o → o.dst = some (dstOfR ops i)) ∧ (∀ i j, i < ops.size → j < ops.size → i ≠ j → dstOfR ops i ≠ dstOfR ops j) ∧ (∀ i, i < ops.size → dstOfR ops i < n) := by
  unfold dstBR at h
  simp only [Bool.and_eq_true, decide_eq_true_eq, List.all_eq_true, List.mem_range] at h
  obtain ⟨⟨h1, h2⟩, h3⟩ := h
  refine ⟨fun i o ho => ?_, fun i j hi hj hne e => ?_, h3⟩
  · have hm : o ∈ ops.toList := by
      have := Array.getElem?_eq_some_iff.1 ho
      obtain ⟨hi, e⟩ := this
      rw [← e]
      exact Array.getElem_mem_toList hi
    have := h1 o hm
    unfold dstOfR
    rw [ho]
    cases hd : o.dst with
    | none => rw [hd] at this; cases this
    | some d => simp [hd]
  · have hi' : i < ((List.range ops.size).map (dstOfR ops)).length := by simpa using hi
    have hj' : j < ((List.range ops.size).map (dstOfR ops)).length := by simpa using hj
    have := (List.getElem_inj (h₀ := hi') (h₁ := hj') h2).1 (by simpa using e)
    exact hne this


def slotR (ops : Array Oper) (a : Act) (i : Nat) : Value := a.eval (.tmp (dstOfR ops i))

theorem evalR_put_same {a : Act} {d : Nat} {v : Value} (h : d < a.tmps.size) : (a.put (some d) v).eval (.tmp d) = v := by
  simp [Act.put, Act.eval, h]
theorem evalR_put_other {a : Act} {d s : Nat} {v : Value} (h : d ≠ s) : (a.put (some d) v).eval (.tmp s) = a.eval (.tmp s) := by
  simp [Act.put, Act.eval, h]


def afterBR (o : Oper) (j : Nat) : Bool := o.after.toList.any fun e => Region.binds .any e && e.on == j
theorem afterBR_spec {o : Oper} {j : Nat} (h : afterBR o j = true) : ∃ e ∈ o.after, Region.binds .any e = true ∧ e.on = j := by
  unfold afterBR at h
  obtain ⟨e, he, h2⟩ := List.any_eq_true.1 h
  simp only [Bool.and_eq_true, beq_iff_eq] at h2
  exact ⟨e, by simpa using he, h2.1, h2.2⟩
def freeBR (ops : Array Oper) (s : Nat) : Bool := (List.range ops.size).all fun i => dstOfR ops i != s
theorem freeBR_spec {ops : Array Oper} {s : Nat} (h : freeBR ops s = true) : ∀ i, i < ops.size → dstOfR ops i ≠ s := by
  intro i hi
  unfold freeBR at h
  have := List.all_eq_true.1 h i (List.mem_range.2 hi)
  simpa using this

abbrev Rl := World → Value → Prop
def vl (v : Value) : Rl := fun _ x => x = v
def rOf (ks : List Rl) (i : Nat) : Rl := (ks[i]?).getD (vl undef)
/-- What stays in later worlds. -/
def StaysR (r : Rl) : Prop := ∀ (w w' : World) (v : Value), r w v → Below w.heap.size w w' → r w' v
theorem stays_vl (v : Value) : StaysR (vl v) := fun _ _ _ h _ => h
structure MidR (W : World) (A : Act) (ops : Array Oper) (K : Nat → Rl) (L : Nat → Bool) (a : Act) (w : World) : Prop where
  below : Below W.heap.size W w
  defers : a.defers = A.defers
  size : a.tmps.size = A.tmps.size
  old : ∀ s, (∀ i, i < ops.size → dstOfR ops i ≠ s) → a.eval (.tmp s) = A.eval (.tmp s)
  rel : ∀ i, i < ops.size → L i = true → K i w (slotR ops a i)
def OutR (K : Nat → Rl) (i : Nat) (w : World) (v : Value) (w' : World) : Prop := K i w' v ∧ Below w.heap.size w w'
theorem midR_step {W : World} {A : Act} {ops : Array Oper} {K : Nat → Rl} {L : Nat → Bool} {a : Act} {w : World} (hK : ∀ i, StaysR (K i)) (hd : dstBR ops A.tmps.size = true)
    (h : MidR W A ops K L a w) {i : Nat} {o : Oper} (ho : ops[i]? = some o) {v : Value} {w' : World} (hout : OutR K i w v w') :
    MidR W A ops K (fun j => if j = i then true else L j) (a.put o.dst v) w' := by
  obtain ⟨d1, d2, d3⟩ := dstBR_spec hd
  have his : i < ops.size := by
    rcases Nat.lt_or_ge i ops.size with k | k
    · exact k
    · simp [k] at ho
  rw [d1 i o ho]
  have ha : dstOfR ops i < a.tmps.size := by rw [h.size]; exact d3 i his
  have hsi : slotR ops (a.put (some (dstOfR ops i)) v) i = v := evalR_put_same ha
  have hso : ∀ j, j < ops.size → j ≠ i → slotR ops (a.put (some (dstOfR ops i)) v) j = slotR ops a j := fun j hj hne => evalR_put_other (d2 i j his hj (Ne.symm hne))
  refine ⟨h.below.trans (hout.2.mono h.below.size), h.defers, by simp [Act.put, h.size], fun s hs => ?_, fun j hj hL => ?_⟩
  · rw [evalR_put_other (hs i his)]
    exact h.old s hs
  · by_cases e : j = i
    · subst e
      rw [hsi]
      exact hout.1
    · rw [hso j hj e]
      exact hK j _ _ _ (h.rel j hj (by simpa [e] using hL)) hout.2
structure CtxR (W : World) (A : Act) (ops : Array Oper) (ks : List Rl) (i : Nat) (o : Oper) (a : Act) (w : World) : Prop where
  below : Below W.heap.size W w
  old : ∀ s, freeBR ops s = true → a.eval (.tmp s) = A.eval (.tmp s)
  val : ∀ j v, afterBR o j = true → rOf ks j = vl v → a.eval (.tmp (dstOfR ops j)) = v
  rel : ∀ j r, afterBR o j = true → rOf ks j = r → r w (a.eval (.tmp (dstOfR ops j)))
  want0 : o.guard = none → Region.wanted o (yielded ops a.tmps) = true
  want : ∀ j b, afterBR o j = true → o.guard = some (j, b) → rOf ks j = vl (.bool b) → Region.wanted o (yielded ops a.tmps) = true
  skip : ∀ j b c, afterBR o j = true → o.guard = some (j, b) → rOf ks j = vl (.bool c) → c ≠ b → Region.wanted o (yielded ops a.tmps) = false
def GoalR (P : Program) (Q : Exit → Act → World → Prop) (ops : Array Oper) (ks : List Rl) (i : Nat) (o : Oper) (a : Act) (w : World) : Prop :=
  (Region.wanted o (yielded ops a.tmps) = true ∧ ∀ Kk : Act → World → Prop, (∀ v w', OutR (rOf ks) i w v w' → Kk (a.put o.dst v) w') → o.wp P a w Kk Q) ∨ (Region.wanted o (yielded ops a.tmps) = false ∧ rOf ks i = vl undef)
def StepR (P : Program) (Q : Exit → Act → World → Prop) (W : World) (A : Act) (ops : Array Oper) (ks : List Rl) (i : Nat) (o : Oper) : Prop :=
  ∀ (a : Act) (w : World), CtxR W A ops ks i o a w → GoalR P Q ops ks i o a w
def StepsR (P : Program) (Q : Exit → Act → World → Prop) (W : World) (A : Act) (ops : Array Oper) (ks : List Rl) : Nat → List Oper → Prop
  | _, [] => True
  | i, o :: rest => StepR P Q W A ops ks i o ∧ StepsR P Q W A ops ks (i + 1) rest
theorem stepsR_get {P : Program} {Q : Exit → Act → World → Prop} {W : World} {A : Act} {ops : Array Oper} {ks : List Rl} : ∀ (l : List Oper) (n i : Nat) (o : Oper), StepsR P Q W A ops ks n l → l[i]? = some o → StepR P Q W A ops ks (n + i) o
  | [], _, _, _, _, h => by simp at h
  | x :: l, n, 0, o, hs, h => by simp at h; subst h; exact hs.1
  | x :: l, n, i + 1, o, hs, h => by
    have := stepsR_get l (n + 1) i o hs.2 (by simpa using h)
    rw [show n + (i + 1) = n + 1 + i by omega]
    exact this
/-- THE REGION: each operation by itself. -/
theorem wp_region_rel {P : Program} {id : Nat} {Q : Exit → Act → World → Prop} {A : Act} {W : World} {l : List Oper} (hm : P.follows .mixedOrders = true) (hl : lowBR l.toArray = true) (n : Nat) (hn : A.tmps.size = n) (hd0 : dstBR l.toArray n = true)
    (ks : List Rl) (hK : ∀ k ∈ ks, StaysR k) (hstep : StepsR P Q W A l.toArray ks 0 l)
    (hend : ∀ (a : Act) (w : World), a.defers = A.defers → Below W.heap.size W w → (∀ i v, i < l.length → rOf ks i = vl v → a.eval (.tmp (dstOfR l.toArray i)) = v) → Q .normal a w) :
    (Code.region id l.toArray true).wp P Q A W := by
  have hd : dstBR l.toArray A.tmps.size = true := by rw [hn]; exact hd0
  have hKs : ∀ i, StaysR (rOf ks i) := fun i => by
    unfold rOf
    cases h : ks[i]? with
    | none => exact stays_vl _
    | some k => exact hK k (List.mem_of_getElem? h)
  refine wp_region_inv hm (lowBR_spec hl) (fun A L a w => MidR W A l.toArray (rOf ks) L a w) ?_ ?_ ?_
  · exact ⟨(Below.refl _ _).drew, rfl, rfl, fun _ _ => rfl, fun _ _ h => by cases h⟩
  · intro L a w i o hM ho hi hafter Kk hKk
    have hs := stepsR_get l 0 i o hstep (by simpa using ho)
    rw [Nat.zero_add] at hs
    obtain ⟨d1, d2, d3⟩ := dstBR_spec hd
    have low := lowBR_spec hl i o ho
    have his : i < l.toArray.size := by
      rcases Nat.lt_or_ge i l.toArray.size with k | k
      · exact k
      · rw [Array.getElem?_eq_none k] at ho; cases ho
    have hLj : ∀ j, afterBR o j = true → j < l.toArray.size ∧ L j = true := fun j hj => by
      obtain ⟨e, he, hb, rfl⟩ := afterBR_spec hj
      exact ⟨by have := low e he hb; omega, hafter e he hb⟩
    have hy : ∀ j b, afterBR o j = true → rOf ks j = vl (.bool b) → yielded l.toArray a.tmps j = some b := fun j b hj hKj => by
      obtain ⟨h1, h2⟩ := hLj j hj
      have hv := hM.rel j h1 h2
      rw [hKj] at hv
      have hv' : slotR l.toArray a j = .bool b := hv
      have ho' : l.toArray[j]? = some l.toArray[j] := Array.getElem?_eq_getElem h1
      have hdj := d1 j _ ho'
      have hsz : dstOfR l.toArray j < a.tmps.size := by rw [hM.size]; exact d3 j h1
      unfold yielded
      rw [ho', Option.bind_some, hdj, Option.bind_some, Array.getElem?_eq_getElem hsz]
      unfold slotR at hv'
      simp only [Act.eval, Array.getD_eq_getD_getElem?, Array.getElem?_eq_getElem hsz, Option.getD_some] at hv'
      rw [hv']
    have hc : CtxR W A l.toArray ks i o a w := by
      refine ⟨hM.below, fun s h => hM.old s (freeBR_spec h), fun j v hj hKj => ?_, fun j r hj hKj => ?_, fun hg => ?_, fun j b hj hg hKj => ?_, fun j b c hj hg hKj hne => ?_⟩
      · have := hM.rel j (hLj j hj).1 (hLj j hj).2
        rw [hKj] at this
        exact this
      · have := hM.rel j (hLj j hj).1 (hLj j hj).2
        rw [hKj] at this
        exact this
      · unfold Region.wanted; rw [hg]
      · unfold Region.wanted; rw [hg]; simp only [hy j b hj hKj]; simp
      · unfold Region.wanted; rw [hg]; simp only [hy j c hj hKj]; simpa using hne
    rcases hs a w hc with ⟨hw, hs⟩ | ⟨hw, hv⟩
    · rw [if_pos hw]
      exact hs Kk fun v w' hout => hKk _ _ (midR_step hKs hd hM ho hout)
    · rw [if_neg (by rw [hw]; exact Bool.false_ne_true)]
      exact hKk _ _ (midR_step hKs hd hM ho ⟨by rw [hv]; rfl, Below.refl _ _⟩)
  · intro L a w hM hall
    refine hend a w hM.defers hM.below fun i v hi hKi => ?_
    have := hM.rel i (by simpa using hi) (hall i (by simpa using hi))
    rw [hKi] at this
    exact this
/-- THE REGION: each operation by itself. -/
theorem wp_region_rel2 {P : Program} {id : Nat} {Q : Exit → Act → World → Prop} {A : Act} {W : World} {l : List Oper} (hm : P.follows .mixedOrders = true) (hl : lowBR l.toArray = true) (n : Nat) (hn : A.tmps.size = n) (hd0 : dstBR l.toArray n = true)
    (ks : List Rl) (hK : ∀ k ∈ ks, StaysR k) (hstep : StepsR P Q W A l.toArray ks 0 l)
    (hend : ∀ (a : Act) (w : World), MidR W A l.toArray (rOf ks) (fun _ => true) a w → Q .normal a w) :
    (Code.region id l.toArray true).wp P Q A W := by
  have hd : dstBR l.toArray A.tmps.size = true := by rw [hn]; exact hd0
  have hKs : ∀ i, StaysR (rOf ks i) := fun i => by
    unfold rOf
    cases h : ks[i]? with
    | none => exact stays_vl _
    | some k => exact hK k (List.mem_of_getElem? h)
  refine wp_region_inv hm (lowBR_spec hl) (fun A L a w => MidR W A l.toArray (rOf ks) L a w) ?_ ?_ ?_
  · exact ⟨(Below.refl _ _).drew, rfl, rfl, fun _ _ => rfl, fun _ _ h => by cases h⟩
  · intro L a w i o hM ho hi hafter Kk hKk
    have hs := stepsR_get l 0 i o hstep (by simpa using ho)
    rw [Nat.zero_add] at hs
    obtain ⟨d1, d2, d3⟩ := dstBR_spec hd
    have low := lowBR_spec hl i o ho
    have his : i < l.toArray.size := by
      rcases Nat.lt_or_ge i l.toArray.size with k | k
      · exact k
      · rw [Array.getElem?_eq_none k] at ho; cases ho
    have hLj : ∀ j, afterBR o j = true → j < l.toArray.size ∧ L j = true := fun j hj => by
      obtain ⟨e, he, hb, rfl⟩ := afterBR_spec hj
      exact ⟨by have := low e he hb; omega, hafter e he hb⟩
    have hy : ∀ j b, afterBR o j = true → rOf ks j = vl (.bool b) → yielded l.toArray a.tmps j = some b := fun j b hj hKj => by
      obtain ⟨h1, h2⟩ := hLj j hj
      have hv := hM.rel j h1 h2
      rw [hKj] at hv
      have hv' : slotR l.toArray a j = .bool b := hv
      have ho' : l.toArray[j]? = some l.toArray[j] := Array.getElem?_eq_getElem h1
      have hdj := d1 j _ ho'
      have hsz : dstOfR l.toArray j < a.tmps.size := by rw [hM.size]; exact d3 j h1
      unfold yielded
      rw [ho', Option.bind_some, hdj, Option.bind_some, Array.getElem?_eq_getElem hsz]
      unfold slotR at hv'
      simp only [Act.eval, Array.getD_eq_getD_getElem?, Array.getElem?_eq_getElem hsz, Option.getD_some] at hv'
      rw [hv']
    have hc : CtxR W A l.toArray ks i o a w := by
      refine ⟨hM.below, fun s h => hM.old s (freeBR_spec h), fun j v hj hKj => ?_, fun j r hj hKj => ?_, fun hg => ?_, fun j b hj hg hKj => ?_, fun j b c hj hg hKj hne => ?_⟩
      · have := hM.rel j (hLj j hj).1 (hLj j hj).2
        rw [hKj] at this
        exact this
      · have := hM.rel j (hLj j hj).1 (hLj j hj).2
        rw [hKj] at this
        exact this
      · unfold Region.wanted; rw [hg]
      · unfold Region.wanted; rw [hg]; simp only [hy j b hj hKj]; simp
      · unfold Region.wanted; rw [hg]; simp only [hy j c hj hKj]; simpa using hne
    rcases hs a w hc with ⟨hw, hs⟩ | ⟨hw, hv⟩
    · rw [if_pos hw]
      exact hs Kk fun v w' hout => hKk _ _ (midR_step hKs hd hM ho hout)
    · rw [if_neg (by rw [hw]; exact Bool.false_ne_true)]
      exact hKk _ _ (midR_step hKs hd hM ho ⟨by rw [hv]; rfl, Below.refl _ _⟩)
  · intro L a w hM hall
    exact hend a w ⟨hM.below, hM.defers, hM.size, hM.old, fun i hi _ => hM.rel i hi (hall i hi)⟩
/-- Values laid into their places, one behind the other. -/
def putVs : Act → List (Nat × Value) → Act
  | A, [] => A
  | A, (d, v) :: r => putVs (A.put (some d) v) r
theorem putVs_size : ∀ (r : List (Nat × Value)) (A : Act), (putVs A r).tmps.size = A.tmps.size ∧ (putVs A r).defers = A.defers
  | [], A => ⟨rfl, rfl⟩
  | (d, v) :: r, A => by
    obtain ⟨h1, h2⟩ := putVs_size r (A.put (some d) v)
    exact ⟨by rw [putVs, h1]; simp [Act.put], by rw [putVs, h2]; rfl⟩
theorem putVs_other : ∀ (r : List (Nat × Value)) (A : Act) (s : Nat), (∀ x ∈ r, x.1 ≠ s) → (putVs A r).eval (.tmp s) = A.eval (.tmp s)
  | [], A, s, _ => rfl
  | (d, v) :: r, A, s, h => by
    rw [putVs, putVs_other r _ s (fun x hx => h x (List.mem_cons_of_mem _ hx))]
    exact evalR_put_other (h (d, v) (List.mem_cons_self ..))
theorem putVs_at : ∀ (r : List (Nat × Value)) (A : Act) (d : Nat) (v : Value), (r.map (·.1)).Nodup → (d, v) ∈ r → d < A.tmps.size → (putVs A r).eval (.tmp d) = v
  | [], A, d, v, _, h, _ => by cases h
  | (d', v') :: r, A, d, v, hn, h, hs => by
    rw [List.map_cons, List.nodup_cons] at hn
    rw [putVs]
    rcases List.mem_cons.1 h with e | h
    · obtain ⟨e1, e2⟩ := Prod.mk.inj e
      rw [e1] at hs ⊢
      rw [e2, putVs_other r _ d' (fun x hx e => hn.1 (List.mem_map.2 ⟨x, hx, e⟩))]
      exact evalR_put_same hs
    · exact putVs_at r _ d v hn.2 h (by simpa [Act.put] using hs)
theorem act_eq {a b : Act} (h1 : a.tmps.size = b.tmps.size) (h2 : a.defers = b.defers) (h : ∀ s, s < b.tmps.size → a.eval (.tmp s) = b.eval (.tmp s)) : a = b := by
  cases a with
  | mk ta da =>
    cases b with
    | mk tb db =>
      simp only at h1 h2
      subst h2
      have : ta = tb := Array.ext h1 fun i hi1 hi2 => by
        have := h i hi2
        simpa [Act.eval, hi1, hi2] using this
      subst this
      rfl
/-- THE REGION, where each operation yields a known value: it goes on with all of them laid. -/
theorem wp_region_vals {P : Program} {id : Nat} {Q : Exit → Act → World → Prop} {A : Act} {W : World} {l : List Oper} (hm : P.follows .mixedOrders = true) (hl : lowBR l.toArray = true) (n : Nat) (hn : A.tmps.size = n) (hd0 : dstBR l.toArray n = true)
    (vs : List Value) (hlen : vs.length = l.length) (hstep : StepsR P Q W A l.toArray (vs.map vl) 0 l)
    (ds : List Nat) (hds : (List.range l.length).map (dstOfR l.toArray) = ds)
    (hend : ∀ w, Below W.heap.size W w → Q .normal (putVs A (ds.zip vs)) w) :
    (Code.region id l.toArray true).wp P Q A W := by
  refine wp_region_rel2 hm hl n hn hd0 (vs.map vl) (fun k hk => by obtain ⟨v, _, rfl⟩ := List.mem_map.1 hk; exact stays_vl v) hstep ?_
  intro a w hM
  have hd : dstBR l.toArray A.tmps.size = true := by rw [hn]; exact hd0
  obtain ⟨d1, d2, d3⟩ := dstBR_spec hd
  have hsz : l.toArray.size = l.length := by simp
  have hdl : ds.length = l.length := by rw [← hds]; simp
  have hnd : ds.Nodup := by
    have h9 := hd
    unfold dstBR at h9
    simp only [Bool.and_eq_true, decide_eq_true_eq] at h9
    have h8 := h9.1.2
    rw [hsz, hds] at h8
    exact h8
  have ha : a = putVs A (ds.zip vs) := by
    refine act_eq (hM.size.trans (putVs_size _ _).1.symm) (hM.defers.trans (putVs_size _ _).2.symm) fun s hs => ?_
    rw [(putVs_size _ _).1] at hs
    by_cases hf : ∃ i, i < l.length ∧ dstOfR l.toArray i = s
    · obtain ⟨i, hi, rfl⟩ := hf
      have hr := hM.rel i (by simpa using hi) rfl
      have hiv : i < vs.length := by omega
      have hk : rOf (vs.map vl) i = vl vs[i] := by
        unfold rOf
        rw [List.getElem?_map, List.getElem?_eq_getElem hiv]
        rfl
      rw [hk] at hr
      refine Eq.trans hr (putVs_at _ _ _ _ ?_ ?_ hs).symm
      · rw [List.map_fst_zip (by omega)]; exact hnd
      · rw [List.mem_iff_getElem?]
        refine ⟨i, ?_⟩
        rw [List.getElem?_zip_eq_some]
        refine ⟨?_, List.getElem?_eq_getElem hiv⟩
        rw [← hds, List.getElem?_map, List.getElem?_range hi]
        rfl
    · have hno : ∀ i, i < l.toArray.size → dstOfR l.toArray i ≠ s := fun i hi e => hf ⟨i, by simpa using hi, e⟩
      rw [hM.old s hno]
      refine (putVs_other _ _ _ fun x hx e => ?_).symm
      have hx1 : x.1 ∈ ds := List.of_mem_zip hx |>.1
      rw [← hds] at hx1
      obtain ⟨i, hi, he⟩ := List.mem_map.1 hx1
      exact hf ⟨i, by simpa using hi, he.trans e⟩
  rw [ha]
  exact hend w hM.below
section
variable {P : Program} {Q : Exit → Act → World → Prop} {ops : Array Oper} {ks : List Rl} {i : Nat} {o : Oper} {a : Act} {w : World}
theorem goalR_run {v : Value} {w' : World} (hw : Region.wanted o (yielded ops a.tmps) = true) (hrun : (execOp a.eval o).run P w = .ok (.value v) w') (hout : OutR (rOf ks) i w v w') : GoalR P Q ops ks i o a w :=
  .inl ⟨hw, fun Kk hKk => by unfold Oper.wp; rw [hrun]; exact hKk v w' hout⟩
theorem goalR_val {v : Value} (hw : Region.wanted o (yielded ops a.tmps) = true) (hrun : (execOp a.eval o).run P w = .ok (.value v) w) (hv : rOf ks i = vl v) : GoalR P Q ops ks i o a w :=
  goalR_run hw hrun ⟨by rw [hv]; rfl, Below.refl _ _⟩
theorem goalR_move {v : Value} (hw : Region.wanted o (yielded ops a.tmps) = true) (x : Operand) (h : o.op = .move x ∨ o.op = .assign x) (hx : a.eval x = v) (hv : rOf ks i = vl v) : GoalR P Q ops ks i o a w := by
  refine goalR_val hw ?_ hv
  rw [← hx]
  rcases h with h | h
  · exact BigFrame.run_move x h w
  · exact BigFrame.run_assign x h w
theorem goalR_call {f : FuncId} {args : Array Value} (hw : Region.wanted o (yielded ops a.tmps) = true) (hrun : (execOp a.eval o).run P w = .ok (.enter f args) w)
    (hc : Calls P f args w fun e w' => ∃ v, e = .returned v ∧ OutR (rOf ks) i w v w') : GoalR P Q ops ks i o a w :=
  .inl ⟨hw, fun Kk hKk => by
    unfold Oper.wp
    rw [hrun]
    exact hc.mono fun e w' ⟨v, he, hout⟩ => by subst he; exact hKk v w' hout⟩
theorem goalR_fn {f : FuncId} {xs : Array Operand} {ts : Array TypeId} {args : Array Value} (hw : Region.wanted o (yielded ops a.tmps) = true) (hop : o.op = .call { callee := .value (.func f), args := xs, argTypes := ts }) (hargs : xs.map a.eval = args) (hf : (callFunc f args).run P w = .ok (.enter f args) w)
    (hc : Calls P f args w fun e w' => ∃ v, e = .returned v ∧ OutR (rOf ks) i w v w') : GoalR P Q ops ks i o a w := by
  refine goalR_call hw ?_ hc
  unfold execOp
  rw [hop]
  simp [resolve, invoke, Act.eval, go_sem, hargs, hf]
theorem goalR_skip (hw : Region.wanted o (yielded ops a.tmps) = false) (hv : rOf ks i = vl undef) : GoalR P Q ops ks i o a w := .inr ⟨hw, hv⟩
theorem outR_val {v : Value} {w' : World} (hv : rOf ks i = vl v) (h : Below w.heap.size w w') : OutR (rOf ks) i w v w' := ⟨by rw [hv]; rfl, h⟩
theorem outR_rel {r : Rl} {v : Value} {w' : World} (hv : rOf ks i = r) (hr : r w' v) (h : Below w.heap.size w w') : OutR (rOf ks) i w v w' := ⟨by rw [hv]; exact hr, h⟩
end
theorem stays_slv (xs : List Int) : StaysR (fun w v => SlV w v xs) := fun _ _ _ h hb => h.later hb
theorem goalR_str {Q : Exit → Act → World → Prop} {ops : Array Oper} {ks : List Rl} {i : Nat} {o : Oper} {a : Act} {w : World} {x : Operand} {v : Value} {xs : List Int} (hw : Region.wanted o (yielded ops a.tmps) = true) (hop : o.op = .convert 33 9 x) (hx : a.eval x = v) (h : SlV w v xs)
    (hv : rOf ks i = vl (.string (strOfNums xs))) : GoalR Try.prog Q ops ks i o a w := by
  obtain ⟨ao, c, rfl, hs⟩ := h
  refine goalR_val hw ?_ hv
  unfold execOp
  rw [hop]
  simp only [hx, Sem.run_bind, str_l hs, Result.andThen_ok, Sem.run_pure]
end Go.Proofs.Ytnoackenjfpcmaa
