/- The landed block: all entries, taken from bytes. -/
import Derived.Test.YtifgojkmdicdmaaLk7
import Derived.Test.YtifgojkmdicdmaaBtakew
namespace Go.Proofs.Ytifgojkmdicdmaa
open Go.RowKit
set_option linter.unusedVariables false
set_option linter.unusedSimpArgs false

/-- Where the walk stands: the entry ahead, the row so far. -/
structure TAk (w wx : World) (v : Value) (es : List EntV) (ka : Option Addr) (kc : Nat) (va : Option Addr) (vc : Nat) (o : EntV) : Prop where
  bo : wx.heap[w.heap.size]? = some (.cells #[.slice ka o.key.length kc, .int .i64 o.seq, .bool o.gone, .int .i64 o.till, .slice va o.val.length vc] 35 (0, 0))
  sk : Sg (fun b => w.heap.size + 1 ≤ b) wx ka kc o.key
  row : RowF entE (w.heap.size + 1) (fun b => w.heap.size + 1 ≤ b) wx v es
  bel : Below w.heap.size w wx
theorem TAk.sz {w wx : World} {v : Value} {es : List EntV} {ka : Option Addr} {kc : Nat} {va : Option Addr} {vc : Nat} {o : EntV} (h : TAk w wx v es ka kc va vc o) : w.heap.size + 1 ≤ wx.heap.size := (Array.getElem?_eq_some_iff.1 h.bo).1
theorem tak_begin (w : World) : TAk w (w.alloc (.cells #[.slice none 0 0, .int .i64 0, .bool false, .int .i64 0, .slice none 0 0] 35)) (.slice none 0 0) [] none 0 none 0 noE :=
  ⟨heap_alloc_new w _, Sg.nil _ _, RowF.nil _ _ _, (Below.refl _ _).alloc (Nat.le_refl _) _⟩
theorem TAk.facts {w wx : World} {v : Value} {es : List EntV} {ka : Option Addr} {kc : Nat} {va : Option Addr} {vc : Nat} {o : EntV} (h : TAk w wx v es ka kc va vc o) {wy : World} (hb : Below wx.heap.size wx wy) :
    wy.cell? ⟨w.heap.size, 0, none⟩ = some (.slice ka o.key.length kc) ∧ wy.cell? ⟨w.heap.size, 1, none⟩ = some (.int .i64 o.seq) ∧ wy.cell? ⟨w.heap.size, 2, none⟩ = some (.bool o.gone) ∧ wy.cell? ⟨w.heap.size, 3, none⟩ = some (.int .i64 o.till) ∧ wy.cell? ⟨w.heap.size, 4, none⟩ = some (.slice va o.val.length vc) ∧
    wy.frozen? ⟨w.heap.size, 0, none⟩ = false ∧ wy.frozen? ⟨w.heap.size, 1, none⟩ = false ∧ wy.frozen? ⟨w.heap.size, 2, none⟩ = false ∧ wy.frozen? ⟨w.heap.size, 3, none⟩ = false ∧ wy.frozen? ⟨w.heap.size, 4, none⟩ = false := by
  have hbo := (hb.block _ (Array.getElem?_eq_some_iff.1 h.bo).1).trans h.bo
  exact ⟨by rw [cell_of hbo]; rfl, by rw [cell_of hbo]; rfl, by rw [cell_of hbo]; rfl, by rw [cell_of hbo]; rfl, by rw [cell_of hbo]; rfl, frozen_of hbo 0, frozen_of hbo 1, frozen_of hbo 2, frozen_of hbo 3, frozen_of hbo 4⟩
/-- The next entry is laid in its place. -/
theorem TAk.next {w wx wy : World} {v : Value} {es : List EntV} {ka0 : Option Addr} {kc0 : Nat} {va0 : Option Addr} {vc0 : Nat} {o0 : EntV} (h : TAk w wx v es ka0 kc0 va0 vc0 o0) (hb : Below wx.heap.size wx wy) {ka : Option Addr} {kc : Nat} {va : Option Addr} {vc : Nat} {o : EntV}
    (hk : Sg (fun b => wx.heap.size ≤ b) wy ka kc o.key) (hv : Sg (fun b => wx.heap.size ≤ b) wy va vc o.val) :
    TAk w (lay5 w.heap.size wy (.slice ka o.key.length kc) (.int .i64 o.seq) (.bool o.gone) (.int .i64 o.till) (.slice va o.val.length vc)) v es ka kc va vc o ∧ Sg (fun b => wx.heap.size ≤ b) (lay5 w.heap.size wy (.slice ka o.key.length kc) (.int .i64 o.seq) (.bool o.gone) (.int .i64 o.till) (.slice va o.val.length vc)) ka kc o.key ∧ Sg (fun b => wx.heap.size ≤ b) (lay5 w.heap.size wy (.slice ka o.key.length kc) (.int .i64 o.seq) (.bool o.gone) (.int .i64 o.till) (.slice va o.val.length vc)) va vc o.val := by
  have hg := lay5_grown w.heap.size wy (.slice ka o.key.length kc) (.int .i64 o.seq) (.bool o.gone) (.int .i64 o.till) (.slice va o.val.length vc)
  have hsz := h.sz
  have hk2 := hk.grown hg fun b hb e => by simp only [Option.some.injEq] at e; omega
  have hv2 := hv.grown hg fun b hb e => by simp only [Option.some.injEq] at e; omega
  have hbo := (hb.block _ (Array.getElem?_eq_some_iff.1 h.bo).1).trans h.bo
  have hbl := h.bel.trans (hb.mono h.bel.size)
  refine ⟨⟨lay5_block hbo _ _ _ _ _, hk2.weak fun b _ hb => by omega, (h.row.later hb).grown hg (fun b e e' => ?_) (fun b e e' => ?_), Below.grown hbl hg hbl.size fun k e => ?_⟩, hk2, hv2⟩
  · have := (h.row.own_lt e).1
    simp only [Option.some.injEq] at e'
    omega
  · simp only [Option.some.injEq] at e'
    omega
  · simp only [Option.some.injEq] at e
    omega
/-- The row takes the entry. -/
theorem TAk.ready {w wx : World} {v : Value} {es : List EntV} {ka : Option Addr} {kc : Nat} {va : Option Addr} {vc : Nat} {o : EntV} {m : Nat} (h : TAk w wx v es ka kc va vc o) (hm : w.heap.size + 1 ≤ m) (hown : ∀ b, v.ownBlock = some b → b < m) (hk : Sg (fun b => m ≤ b) wx ka kc o.key) (hv : Sg (fun b => m ≤ b) wx va vc o.val) (h1 : In64 o.seq) (h2 : In64 o.till) :
    RowF entE (w.heap.size + 1) (fun b => w.heap.size + 1 ≤ b) (wx.alloc (.cells #[.slice ka o.key.length kc, .int .i64 o.seq, .bool o.gone, .int .i64 o.till, .slice va o.val.length vc] 35)) v es ∧
    RSu entE (wx.alloc (.cells #[.slice ka o.key.length kc, .int .i64 o.seq, .bool o.gone, .int .i64 o.till, .slice va o.val.length vc] 35)) (some ⟨wx.heap.size, 0, none⟩) 1 1 [.slice ka o.key.length kc, .int .i64 o.seq, .bool o.gone, .int .i64 o.till, .slice va o.val.length vc] [o] ∧
    (∀ u ∈ ([.slice ka o.key.length kc, .int .i64 o.seq, .bool o.gone, .int .i64 o.till, .slice va o.val.length vc] : List Value), ∀ b, Refs u b → v.ownBlock ≠ some b) ∧
    (∀ u ∈ ([.slice ka o.key.length kc, .int .i64 o.seq, .bool o.gone, .int .i64 o.till, .slice va o.val.length vc] : List Value), ∀ b, Refs u b → w.heap.size + 1 ≤ b) ∧
    w.heap.size + 1 ≤ (wx.alloc (.cells #[.slice ka o.key.length kc, .int .i64 o.seq, .bool o.gone, .int .i64 o.till, .slice va o.val.length vc] 35)).heap.size ∧
    (∀ w9 v9, (wx.alloc (.cells #[.slice ka o.key.length kc, .int .i64 o.seq, .bool o.gone, .int .i64 o.till, .slice va o.val.length vc] 35)).grownBy w9 v.ownBlock → RowF entE (w.heap.size + 1) (fun b => w.heap.size + 1 ≤ b) w9 v9 (es ++ [o]) → TAk w w9 v9 (es ++ [o]) ka kc va vc o) := by
  have hb : Below wx.heap.size wx (wx.alloc (.cells #[.slice ka o.key.length kc, .int .i64 o.seq, .bool o.gone, .int .i64 o.till, .slice va o.val.length vc] 35)) := (Below.refl _ wx).alloc (Nat.le_refl _) _
  have hM : entE.M wx [.slice ka o.key.length kc, .int .i64 o.seq, .bool o.gone, .int .i64 o.till, .slice va o.val.length vc] o := ⟨ka, kc, va, vc, rfl, hk.1, hv.1, h1, h2⟩
  have hsz := h.sz
  have hbo := (hb.block _ (Array.getElem?_eq_some_iff.1 h.bo).1).trans h.bo
  have hbl := h.bel.trans (hb.mono h.bel.size)
  have hgt : ∀ u ∈ ([.slice ka o.key.length kc, .int .i64 o.seq, .bool o.gone, .int .i64 o.till, .slice va o.val.length vc] : List Value), ∀ b, Refs u b → m ≤ b := fun u hu b hr => by
    simp only [List.mem_cons, List.not_mem_nil, or_false] at hu
    rcases hu with rfl | rfl | rfl | rfl | rfl
    · exact hk.2 b hr
    · exact (refs_int hr).elim
    · exact (refs_bool hr).elim
    · exact (refs_int hr).elim
    · exact hv.2 b hr
  refine ⟨h.row.later hb, rs_one hM, fun u hu b hr e => ?_, fun u hu b hr => ?_, by simp; omega, fun w9 v9 hg hr9 => ⟨?_, ?_, hr9, Below.grown hbl hg hbl.size (fun k e => ?_)⟩⟩
  · have := hgt u hu b hr
    have := hown b e
    omega
  · have := hgt u hu b hr
    omega
  · rw [hg.block w.heap.size (by simp; omega) (fun e => ?_)]
    · exact hbo
    · have := (h.row.own_lt e.symm).1
      omega
  · refine ((hk.later hb).grown hg fun b hb' e => ?_).weak fun b _ hb' => by omega
    have := hown b e.symm
    omega
  · have := (h.row.own_lt e).1
    omega

theorem tA_step {n : Nat} {key l : List Int} {acc : List EntV} {T : Nat × List EntV} (h : T = ((tA (n + 1) key l).1, acc ++ (tA (n + 1) key l).2)) (hl : l ≠ []) : ((tE key l).1 ≠ 0 → T.1 = (tE key l).1) ∧ ((tE key l).1 = 0 → T = ((tA n (tE key l).2.1.key (tE key l).2.2).1, (acc ++ [(tE key l).2.1]) ++ (tA n (tE key l).2.1.key (tE key l).2.2).2)) := by
  unfold tA at h
  rw [if_neg hl] at h
  refine ⟨fun q => ?_, fun q => ?_⟩
  · rw [if_pos q] at h
    rw [h]
  · rw [if_neg (not_not_intro q)] at h
    rw [h]
    simp
theorem tA_nil (n : Nat) (key : List Int) : tA n key [] = (0, []) := by
  cases n with
  | zero => rfl
  | succ n => unfold tA; rw [if_pos rfl]
theorem take_more {acc : List EntV} {o : EntV} (h : (acc.take 401).length ≤ 400) : (acc ++ [o]).take 401 = acc.take 401 ++ [o] := by
  rw [List.length_take] at h
  have h1 : acc.length ≤ 400 := by omega
  rw [List.take_of_length_le (by simp; omega), List.take_of_length_le (by omega)]
theorem take_same {acc : List EntV} {o : EntV} (h : 400 < (acc.take 401).length) : (acc ++ [o]).take 401 = acc.take 401 := by
  rw [List.length_take] at h
  exact List.take_append_of_le_length (by omega)

set_option maxHeartbeats 4000000 in
set_option maxRecDepth 100000 in
theorem tall_k {w : World} {ao : Option Addr} {len cap : Nat} {d : List Int} (h : Sl w ao len cap d) (hl : len ≤ 2000000) {N : Nat} (hN : len ≤ N) :
    Calls Try.prog 33 #[.slice ao len cap] w fun e w' => ∃ v, e = .returned (.tuple #[v, .int .i64 ((tA N [] d).1 : Nat)]) ∧ RSV entE w' v (if (tA N [] d).1 = 0 then (tA N [] d).2.take 401 else []) ∧ Below w.heap.size w w' := by
  have hdl : d.length = len := h.1
  obtain ⟨T, hT⟩ : ∃ T, T = tA N [] d := ⟨_, rfl⟩
  rw [← hT]
  obtain ⟨R, hR⟩ : ∃ R, R = (if T.1 = 0 then T.2.take 401 else []) := ⟨_, rfl⟩
  obtain ⟨E0, hE0⟩ : ∃ E0, E0 = T.1 := ⟨_, rfl⟩
  rw [← hR, ← hE0]
  have HER : Hid (E0 = T.1 ∧ R = (if T.1 = 0 then T.2.take 401 else [])) := ⟨hE0, hR⟩
  clear hR hE0
  have HS : Hid (Sl w ao len cap d ∧ len ≤ 2000000) := ⟨h, hl⟩
  have HR0 : Hid (Rests ao len cap d (.slice ao len cap) d) := fun w h => ⟨ao, cap, by rw [h.1], by rw [h.1]; exact h⟩
  have HT0 : Hid (T = ((tA N [] d).1, [] ++ (tA N [] d).2)) := by show _ = _; rw [hT]; rfl
  have H0 : Hid (TAk w _ (.slice none 0 0) [] none 0 none 0 noE) := tak_begin w
  clear h hl hT
  go_enter Try.func33, Try.ntmps33
  go_wp2_with fail
  go_loopg [0, 4, 6] len (fun g r v _ wr => ∃ (ra : Option Addr) (rc : Nat) (l : List Int) (ka : Option Addr) (kc : Nat) (va : Option Addr) (vc : Nat) (o : EntV) (acc : List EntV) (n : Nat), g = l.length ∧ r = .slice ra l.length rc ∧ Hid (l.length ≤ n ∧ Rests ao len cap d (.slice ra l.length rc) l ∧ TAk w wr v (acc.take 401) ka kc va vc o ∧ T = ((tA n o.key l).1, acc ++ (tA n o.key l).2) ∧ o.key.length ≤ 512 ∧ l.length ≤ len))
  case atStart => exact ⟨ao, cap, d, none, 0, none, 0, noE, [], N, by omega, by rw [hdl], by omega, by rw [hdl]; exact HR0.out, H0.out, HT0.out, by simp [noE], by omega⟩
  case round =>
    obtain ⟨ra, rc, l, ka0, kc0, va0, vc0, o0, acc, n, hgl, rfl, HK⟩ := hrel
    subst hgl
    have hl62 : l.length ≤ 2 ^ 61 := by have := HK.out.2.2.2.2.2; have := HS.out.2; omega
    obtain ⟨v1, v2, v3, hv, hvn⟩ := HK.out.2.2.1.row.slice'
    subst hv
    by_cases hq : 0 < l.length
    · have hq' : (0 : Int) < (l.length : Int) := by omega
      have hne : l ≠ [] := fun e => by rw [e] at hq; simp at hq
      obtain ⟨n', rfl⟩ : ∃ n', n = n' + 1 := ⟨n - 1, by have := HK.out.1; omega⟩
      obtain ⟨p1, p2⟩ := tA_step HK.out.2.2.2.1 hne
      have hte := tent_k ((HK.out.2.1 w HS.out.1).sl.later HK.out.2.2.1.bel) (by have := HK.out.2.2.2.2.2; have := HS.out.2; omega) HK.out.2.2.1.sk.1 HK.out.2.2.2.2.1
      have hls : (tE o0.key l).1 = 0 → (tE o0.key l).2.2.length < l.length := tE_less HK.out.2.2.2.2.1
      have hkl := tE_key o0.key l
      unfold ToldK entA at hte
      obtain ⟨⟨E, o, l'⟩, hE⟩ : ∃ x, tE o0.key l = x := ⟨_, rfl⟩
      rw [hE] at hte p1 p2 hls hkl
      simp only at hte p1 p2 hls hkl
      have HP := hid (And.intro p1 p2)
      have HLS : Hid ((E = 0 → l'.length < l.length) ∧ o.key.length ≤ 512) := ⟨hls, hkl⟩
      obtain ⟨y0, y1, y2, y3, y4, f0, f1, f2, f3, f4⟩ := HK.out.2.2.1.facts (Below.refl _ _)
      have HA : Hid (TAk w wr (.slice v1 v2 v3) (acc.take 401) ka0 kc0 va0 vc0 o0) := HK.out.2.2.1
      have HV2 : Hid (v2 = (acc.take 401).length) := hvn
      clear p1 p2 hE hls hkl hq hvn hne
      go_upto_region 6 with (go_at_call 41; refine hte.mono ?_; rintro e w1 ⟨ka, kc, va, vc, rv, rfl, K1, K2, I1, I2, s1, b1⟩; clear y0 y1 y2 y3 y4 f0 f1 f2 f3 f4; obtain ⟨y0, y1, y2, y3, y4, f0, f1, f2, f3, f4⟩ := HA.out.facts b1)
      obtain ⟨A1, A2, A3⟩ := HA.out.next b1 K1 K2
      obtain ⟨W1, hW1⟩ : ∃ W1, W1 = lay5 w.heap.size w1 (.slice ka o.key.length kc) (.int .i64 o.seq) (.bool o.gone) (.int .i64 o.till) (.slice va o.val.length vc) := ⟨_, rfl⟩
      rw [← hW1] at A1 A2 A3
      unfold lay5 at hW1
      rw [← hW1]
      have HA1 := hid A1
      have HA2 : Hid (Sg (fun b => wr.heap.size ≤ b) W1 ka kc o.key ∧ Sg (fun b => wr.heap.size ≤ b) W1 va vc o.val ∧ In64 o.seq ∧ In64 o.till) := ⟨A2, A3, I1, I2⟩
      have HR1 := hid (HK.out.2.1.trans s1)
      clear A1 A2 A3 hW1 K1 K2 I1 I2 s1 b1 hte y0 y1 y2 y3 y4 f0 f1 f2 f3 f4
      by_cases qE : E = 0
      · subst qE
        have HT1 := hid (HP.out.2 rfl)
        have HL1 := hid (HLS.out.1 rfl)
        obtain ⟨ra1, rc1, hrv⟩ := HR1.out.form HS.out.1
        subst hrv
        obtain ⟨y0, y1, y2, y3, y4, f0, f1, f2, f3, f4⟩ := HA1.out.facts (Below.refl _ _)
        have hv262 : v2 ≤ 2 ^ 61 := by have := HV2.out; rw [List.length_take] at this; omega
        have HLL : Hid (l'.length ≤ n' ∧ l'.length ≤ len) := ⟨by have := HK.out.1; have := HL1.out; omega, by have := HK.out.2.2.2.2.2; have := HL1.out; omega⟩
        by_cases q4 : v2 ≤ 400
        · have q4' : (v2 : Int) ≤ 400 := by omega
          have HRD := hid (HA1.out.ready HA.out.sz (fun b e => (HA.out.row.own_lt e).2) HA2.out.1 HA2.out.2.1 HA2.out.2.2.1 HA2.out.2.2.2)
          have HTK : Hid ((acc ++ [o]).take 401 = acc.take 401 ++ [o]) := take_more (by rw [← HV2.out]; exact q4)
          have HLA : Hid ((acc.take 401).length ≤ 401) := by show _ ≤ _; rw [List.length_take]; omega
          clear q4 HK
          go_wp2_with (at_builtin; refine wpList_appF entE (t := 22) (z := .agg #[.slice none 0 0, .int .i64 0, .bool false, .int .i64 0, .slice none 0 0]) (bytes := 72) (B := w.heap.size + 1) Try.underlying22 entE_info rfl (by decide) rfl (.tmp 24) (.tmp 26) rfl rfl HRD.out.1 rfl HRD.out.2.1 HRD.out.2.2.1 HRD.out.2.2.2.1 (by have := HLA.out; omega) (by have := HLA.out; omega) HRD.out.2.2.2.2.1 ?_; intro v9 w9 r9 g9 m9)
          have A9 := HRD.out.2.2.2.2.2 w9 v9 g9 r9
          rw [← HTK.out] at A9
          have HA9 := hid A9
          clear A9 r9 g9 m9 HRD
          go_roundg (l'.length)
          case measure => exact HL1.out
          case rel => exact ⟨ra1, rc1, l', ka, kc, va, vc, o, acc ++ [o], n', rfl, rfl, HLL.out.1, HR1.out, HA9.out, HT1.out, HLS.out.2, HLL.out.2⟩
        · have q4' : ¬ ((v2 : Int) ≤ 400) := by omega
          have HTK : Hid ((acc ++ [o]).take 401 = acc.take 401) := take_same (by rw [← HV2.out]; omega)
          clear q4 HK
          go_wp2_with fail
          go_roundg (l'.length)
          case measure => exact HL1.out
          case rel => exact ⟨ra1, rc1, l', ka, kc, va, vc, o, acc ++ [o], n', rfl, rfl, HLL.out.1, HR1.out, by rw [HTK.out]; exact HA1.out, HT1.out, HLS.out.2, HLL.out.2⟩
      · have hne : ((E : Int) != 0) = true := by simp; omega
        have HT1 := hid (HP.out.1 qE)
        have HQE := hid qE
        clear qE
        go_wp2_with fail
        exact bodyPost_ret (v := .tuple #[.slice none 0 0, .int .i64 (E : Nat)]) (by simp [results, Try.results33, go_sem]) rfl ⟨.slice none 0 0, by rw [HER.out.1, HT1.out], by rw [HER.out.2, HT1.out, if_neg HQE.out]; exact RSV.nil _, HA1.out.bel⟩
    · have hq' : ¬ ((0 : Int) < (l.length : Int)) := by omega
      have hl0 : l = [] := List.eq_nil_of_length_eq_zero (by omega)
      have HTT : Hid (T = (0, acc)) := by show _ = _; rw [HK.out.2.2.2.1, hl0, tA_nil]; simp
      have HA := hid HK.out.2.2.1
      clear hq hl0 HK hvn
      go_wp2_with fail
      exact bodyPost_ret (v := .tuple #[.slice v1 v2 v3, .int .i64 0]) (by simp [results, Try.results33, go_sem]) rfl ⟨.slice v1 v2 v3, by rw [HER.out.1, HTT.out]; rfl, by rw [HER.out.2, HTT.out]; exact RSV.ofRow HA.out.row.s, HA.out.bel⟩
end Go.Proofs.Ytifgojkmdicdmaa
