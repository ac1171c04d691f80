import Derived.Deep.RegionHeldLaw
import Derived.Test.YtfecopldepnicaaPk08
import Derived.Test.YtfecopldepnicaaPk21
import Derived.Test.YtfecopldepnicaaPk31
import Derived.Test.YtfecopldepnicaaPk37
/- The document's own TakeBatch: the walk. -/
namespace Go.Proofs.Ytfecopldepnicaa
open Go.RowKit
set_option linter.unusedVariables false
set_option linter.unusedSimpArgs false

theorem RowF.slice {α : Type} {E : El α} {B : Nat} {F : Nat → Prop} {w : World} {v : Value} {xs : List α} (h : RowF E B F w v xs) : ∃ a c, v = .slice a xs.length c ∧ RS E w a xs.length c xs := h.s.rs
theorem RowF.slice' {α : Type} {E : El α} {B : Nat} {F : Nat → Prop} {w : World} {v : Value} {xs : List α} (h : RowF E B F w v xs) : ∃ a n c, v = .slice a n c ∧ n = xs.length := by
  obtain ⟨a, c, e, _⟩ := h.s.rs
  exact ⟨a, _, c, e, rfl⟩
theorem Hid.mk' {p : Prop} (h : p) : Hid p := h
theorem in64_0 : In64 0 := ⟨by decide, by decide⟩
end Go.Proofs.Ytfecopldepnicaa

/- The landed block: all entries, taken from bytes. -/
namespace Go.Proofs.Ytfecopldepnicaa
open Go.RowKit
set_option linter.unusedVariables false
set_option linter.unusedSimpArgs false

/-- Where the walk stands: the entry ahead, the row so far. -/
structure TAk (w wx : World) (v : Value) (es : List EntV) (ka : Option Addr) (kc : Nat) (va : Option Addr) (vc : Nat) (o : EntV) : Prop where
  bo : wx.heap[w.heap.size]? = some (.cells #[.slice ka o.key.length kc, .int .i64 o.seq, .bool o.gone, .int .i64 o.till, .slice va o.val.length vc] 34 (0, 0))
  sk : Sg (fun b => w.heap.size + 1 ≤ b) wx ka kc o.key
  row : RowF entE (w.heap.size + 1) (fun b => w.heap.size + 1 ≤ b) wx v es
  bel : Below w.heap.size w wx
theorem TAk.sz {w wx : World} {v : Value} {es : List EntV} {ka : Option Addr} {kc : Nat} {va : Option Addr} {vc : Nat} {o : EntV} (h : TAk w wx v es ka kc va vc o) : w.heap.size + 1 ≤ wx.heap.size := (Array.getElem?_eq_some_iff.1 h.bo).1
theorem tak_begin (w : World) : TAk w (w.alloc (.cells #[.slice none 0 0, .int .i64 0, .bool false, .int .i64 0, .slice none 0 0] 34)) (.slice none 0 0) [] none 0 none 0 noE :=
  ⟨heap_alloc_new w _, Sg.nil _ _, RowF.nil _ _ _, (Below.refl _ _).alloc (Nat.le_refl _) _⟩
theorem TAk.facts {w wx : World} {v : Value} {es : List EntV} {ka : Option Addr} {kc : Nat} {va : Option Addr} {vc : Nat} {o : EntV} (h : TAk w wx v es ka kc va vc o) {wy : World} (hb : Below wx.heap.size wx wy) :
    wy.cell? ⟨w.heap.size, 0, none⟩ = some (.slice ka o.key.length kc) ∧ wy.cell? ⟨w.heap.size, 1, none⟩ = some (.int .i64 o.seq) ∧ wy.cell? ⟨w.heap.size, 2, none⟩ = some (.bool o.gone) ∧ wy.cell? ⟨w.heap.size, 3, none⟩ = some (.int .i64 o.till) ∧ wy.cell? ⟨w.heap.size, 4, none⟩ = some (.slice va o.val.length vc) ∧
    wy.frozen? ⟨w.heap.size, 0, none⟩ = false ∧ wy.frozen? ⟨w.heap.size, 1, none⟩ = false ∧ wy.frozen? ⟨w.heap.size, 2, none⟩ = false ∧ wy.frozen? ⟨w.heap.size, 3, none⟩ = false ∧ wy.frozen? ⟨w.heap.size, 4, none⟩ = false := by
  have hbo := (hb.block _ (Array.getElem?_eq_some_iff.1 h.bo).1).trans h.bo
  exact ⟨by rw [cell_of hbo]; rfl, by rw [cell_of hbo]; rfl, by rw [cell_of hbo]; rfl, by rw [cell_of hbo]; rfl, by rw [cell_of hbo]; rfl, frozen_of hbo 0, frozen_of hbo 1, frozen_of hbo 2, frozen_of hbo 3, frozen_of hbo 4⟩
/-- The next entry is laid in its place. -/
theorem TAk.next {w wx wy : World} {v : Value} {es : List EntV} {ka0 : Option Addr} {kc0 : Nat} {va0 : Option Addr} {vc0 : Nat} {o0 : EntV} (h : TAk w wx v es ka0 kc0 va0 vc0 o0) (hb : Below wx.heap.size wx wy) {ka : Option Addr} {kc : Nat} {va : Option Addr} {vc : Nat} {o : EntV}
    (hk : Sg (fun b => wx.heap.size ≤ b) wy ka kc o.key) (hv : Sg (fun b => wx.heap.size ≤ b) wy va vc o.val) :
    TAk w (lay5 w.heap.size wy (.slice ka o.key.length kc) (.int .i64 o.seq) (.bool o.gone) (.int .i64 o.till) (.slice va o.val.length vc)) v es ka kc va vc o ∧ Sg (fun b => wx.heap.size ≤ b) (lay5 w.heap.size wy (.slice ka o.key.length kc) (.int .i64 o.seq) (.bool o.gone) (.int .i64 o.till) (.slice va o.val.length vc)) ka kc o.key ∧ Sg (fun b => wx.heap.size ≤ b) (lay5 w.heap.size wy (.slice ka o.key.length kc) (.int .i64 o.seq) (.bool o.gone) (.int .i64 o.till) (.slice va o.val.length vc)) va vc o.val := by
  have hg := lay5_grown w.heap.size wy (.slice ka o.key.length kc) (.int .i64 o.seq) (.bool o.gone) (.int .i64 o.till) (.slice va o.val.length vc)
  have hsz := h.sz
  have hk2 := hk.grown hg fun b hb e => by simp only [Option.some.injEq] at e; omega
  have hv2 := hv.grown hg fun b hb e => by simp only [Option.some.injEq] at e; omega
  have hbo := (hb.block _ (Array.getElem?_eq_some_iff.1 h.bo).1).trans h.bo
  have hbl := h.bel.trans (hb.mono h.bel.size)
  refine ⟨⟨lay5_block hbo _ _ _ _ _, hk2.weak fun b _ hb => by omega, (h.row.later hb).grown hg (fun b e e' => ?_) (fun b e e' => ?_), Below.grown hbl hg hbl.size fun k e => ?_⟩, hk2, hv2⟩
  · have := (h.row.own_lt e).1
    simp only [Option.some.injEq] at e'
    omega
  · simp only [Option.some.injEq] at e'
    omega
  · simp only [Option.some.injEq] at e
    omega
/-- The row takes the entry. -/
theorem TAk.ready {w wx : World} {v : Value} {es : List EntV} {ka : Option Addr} {kc : Nat} {va : Option Addr} {vc : Nat} {o : EntV} {m : Nat} (h : TAk w wx v es ka kc va vc o) (hm : w.heap.size + 1 ≤ m) (hown : ∀ b, v.ownBlock = some b → b < m) (hk : Sg (fun b => m ≤ b) wx ka kc o.key) (hv : Sg (fun b => m ≤ b) wx va vc o.val) (h1 : In64 o.seq) (h2 : In64 o.till) :
    RowF entE (w.heap.size + 1) (fun b => w.heap.size + 1 ≤ b) (wx.alloc (.cells #[.slice ka o.key.length kc, .int .i64 o.seq, .bool o.gone, .int .i64 o.till, .slice va o.val.length vc] 34)) v es ∧
    RSu entE (wx.alloc (.cells #[.slice ka o.key.length kc, .int .i64 o.seq, .bool o.gone, .int .i64 o.till, .slice va o.val.length vc] 34)) (some ⟨wx.heap.size, 0, none⟩) 1 1 [.slice ka o.key.length kc, .int .i64 o.seq, .bool o.gone, .int .i64 o.till, .slice va o.val.length vc] [o] ∧
    (∀ u ∈ ([.slice ka o.key.length kc, .int .i64 o.seq, .bool o.gone, .int .i64 o.till, .slice va o.val.length vc] : List Value), ∀ b, Refs u b → v.ownBlock ≠ some b) ∧
    (∀ u ∈ ([.slice ka o.key.length kc, .int .i64 o.seq, .bool o.gone, .int .i64 o.till, .slice va o.val.length vc] : List Value), ∀ b, Refs u b → w.heap.size + 1 ≤ b) ∧
    w.heap.size + 1 ≤ (wx.alloc (.cells #[.slice ka o.key.length kc, .int .i64 o.seq, .bool o.gone, .int .i64 o.till, .slice va o.val.length vc] 34)).heap.size ∧
    (∀ w9 v9, (wx.alloc (.cells #[.slice ka o.key.length kc, .int .i64 o.seq, .bool o.gone, .int .i64 o.till, .slice va o.val.length vc] 34)).grownBy w9 v.ownBlock → RowF entE (w.heap.size + 1) (fun b => w.heap.size + 1 ≤ b) w9 v9 (es ++ [o]) → TAk w w9 v9 (es ++ [o]) ka kc va vc o) := by
  have hb : Below wx.heap.size wx (wx.alloc (.cells #[.slice ka o.key.length kc, .int .i64 o.seq, .bool o.gone, .int .i64 o.till, .slice va o.val.length vc] 34)) := (Below.refl _ wx).alloc (Nat.le_refl _) _
  have hM : entE.M wx [.slice ka o.key.length kc, .int .i64 o.seq, .bool o.gone, .int .i64 o.till, .slice va o.val.length vc] o := ⟨ka, kc, va, vc, rfl, hk.1, hv.1, h1, h2⟩
  have hsz := h.sz
  have hbo := (hb.block _ (Array.getElem?_eq_some_iff.1 h.bo).1).trans h.bo
  have hbl := h.bel.trans (hb.mono h.bel.size)
  have hgt : ∀ u ∈ ([.slice ka o.key.length kc, .int .i64 o.seq, .bool o.gone, .int .i64 o.till, .slice va o.val.length vc] : List Value), ∀ b, Refs u b → m ≤ b := fun u hu b hr => by
    simp only [List.mem_cons, List.not_mem_nil, or_false] at hu
    rcases hu with rfl | rfl | rfl | rfl | rfl
    · exact hk.2 b hr
    · exact (refs_int hr).elim
    · exact (refs_bool hr).elim
    · exact (refs_int hr).elim
    · exact hv.2 b hr
  refine ⟨h.row.later hb, rs_one hM, fun u hu b hr e => ?_, fun u hu b hr => ?_, by simp; omega, fun w9 v9 hg hr9 => ⟨?_, ?_, hr9, Below.grown hbl hg hbl.size (fun k e => ?_)⟩⟩
  · have := hgt u hu b hr
    have := hown b e
    omega
  · have := hgt u hu b hr
    omega
  · rw [hg.block w.heap.size (by simp; omega) (fun e => ?_)]
    · exact hbo
    · have := (h.row.own_lt e.symm).1
      omega
  · refine ((hk.later hb).grown hg fun b hb' e => ?_).weak fun b _ hb' => by omega
    have := hown b e.symm
    omega
  · have := (h.row.own_lt e).1
    omega

theorem tA_step {n : Nat} {key l : List Int} {acc : List EntV} {T : Nat × List EntV} (h : T = ((tA (n + 1) key l).1, acc ++ (tA (n + 1) key l).2)) (hl : l ≠ []) : ((tE key l).1 ≠ 0 → T.1 = (tE key l).1) ∧ ((tE key l).1 = 0 → T = ((tA n (tE key l).2.1.key (tE key l).2.2).1, (acc ++ [(tE key l).2.1]) ++ (tA n (tE key l).2.1.key (tE key l).2.2).2)) := by
  unfold tA at h
  rw [if_neg hl] at h
  refine ⟨fun q => ?_, fun q => ?_⟩
  · rw [if_pos q] at h
    rw [h]
  · rw [if_neg (not_not_intro q)] at h
    rw [h]
    simp
theorem tA_nil (n : Nat) (key : List Int) : tA n key [] = (0, []) := by
  cases n with
  | zero => rfl
  | succ n => unfold tA; rw [if_pos rfl]
theorem take_more {acc : List EntV} {o : EntV} (h : (acc.take 401).length ≤ 400) : (acc ++ [o]).take 401 = acc.take 401 ++ [o] := by
  rw [List.length_take] at h
  have h1 : acc.length ≤ 400 := by omega
  rw [List.take_of_length_le (by simp; omega), List.take_of_length_le (by omega)]
theorem take_same {acc : List EntV} {o : EntV} (h : 400 < (acc.take 401).length) : (acc ++ [o]).take 401 = acc.take 401 := by
  rw [List.length_take] at h
  exact List.take_append_of_le_length (by omega)

/-- A row of entries that leans on new memory alone. -/
def RGV (B : Nat) (w : World) (v : Value) (xs : List EntV) : Prop := ∃ a c, v = .slice a xs.length c ∧ RSG entE (fun b => B ≤ b) w a xs.length c xs ∧ ∀ b off, a = some ⟨b, off, none⟩ → B ≤ b
theorem RGV.rsv {B : Nat} {w : World} {v : Value} {xs : List EntV} (h : RGV B w v xs) : RSV entE w v xs := by
  obtain ⟨a, c, e, h, _⟩ := h
  exact ⟨a, c, e, h.rs⟩
theorem RGV.nil (B : Nat) (w : World) : RGV B w (.slice none 0 0) [] := ⟨none, 0, rfl, ⟨[], ⟨rfl, fun _ => ⟨rfl, rfl⟩, Nat.le_refl _, Nat.zero_le _, rfl, fun j u hu => by simp at hu⟩, fun u hu => by cases hu⟩, fun b o e => by cases e⟩
theorem RSG.weakG {α : Type} {E : El α} {G G' : Nat → Prop} {w : World} {ao : Option Addr} {len cap : Nat} {xs : List α} (h : RSG E G w ao len cap xs) (hG : ∀ b, G b → G' b) : RSG E G' w ao len cap xs := by
  obtain ⟨us, h1, h2⟩ := h
  exact ⟨us, h1, fun u hu b hr => hG b (h2 u hu b hr)⟩
theorem RGV.ofRow {B C : Nat} {w : World} {v : Value} {xs : List EntV} (h : RowF entE C (fun b => B + 1 ≤ b) w v xs) (hC : B ≤ C) : RGV B w v xs := by
  have h0 := h
  obtain ⟨a, c, e, h⟩ := h.rsg
  exact ⟨a, c, e, h.weakG fun b hb => by omega, fun b o eb => by
    have := (h0.own_lt (g := b) (by rw [e, eb]; rfl)).1
    omega⟩
set_option maxHeartbeats 4000000 in
set_option maxRecDepth 100000 in
theorem tallG_k {w : World} {ao : Option Addr} {len cap : Nat} {d : List Int} (h : Sl w ao len cap d) (hl : len ≤ 5000000) {N : Nat} (hN : len ≤ N) :
    Calls Try.prog 81 #[.slice ao len cap] w fun e w' => ∃ v, e = .returned (.tuple #[v, .int .i64 ((tA N [] d).1 : Nat)]) ∧ RGV w.heap.size w' v (if (tA N [] d).1 = 0 then (tA N [] d).2.take 401 else []) ∧ Below w.heap.size w w' := by
  have hdl : d.length = len := h.1
  obtain ⟨T, hT⟩ : ∃ T, T = tA N [] d := ⟨_, rfl⟩
  rw [← hT]
  obtain ⟨R, hR⟩ : ∃ R, R = (if T.1 = 0 then T.2.take 401 else []) := ⟨_, rfl⟩
  obtain ⟨E0, hE0⟩ : ∃ E0, E0 = T.1 := ⟨_, rfl⟩
  rw [← hR, ← hE0]
  have HER : Hid (E0 = T.1 ∧ R = (if T.1 = 0 then T.2.take 401 else [])) := ⟨hE0, hR⟩
  clear hR hE0
  have HS : Hid (Sl w ao len cap d ∧ len ≤ 5000000) := ⟨h, hl⟩
  have HR0 : Hid (Rests ao len cap d (.slice ao len cap) d) := fun w h => ⟨ao, cap, by rw [h.1], by rw [h.1]; exact h⟩
  have HT0 : Hid (T = ((tA N [] d).1, [] ++ (tA N [] d).2)) := by show _ = _; rw [hT]; rfl
  have H0 : Hid (TAk w _ (.slice none 0 0) [] none 0 none 0 noE) := tak_begin w
  clear h hl hT
  go_enter Try.func81, Try.ntmps81
  go_wp2_with fail
  go_loopg [0, 4, 6] len (fun g r v _ wr => ∃ (ra : Option Addr) (rc : Nat) (l : List Int) (ka : Option Addr) (kc : Nat) (va : Option Addr) (vc : Nat) (o : EntV) (acc : List EntV) (n : Nat), g = l.length ∧ r = .slice ra l.length rc ∧ Hid (l.length ≤ n ∧ Rests ao len cap d (.slice ra l.length rc) l ∧ TAk w wr v (acc.take 401) ka kc va vc o ∧ T = ((tA n o.key l).1, acc ++ (tA n o.key l).2) ∧ o.key.length ≤ 512 ∧ l.length ≤ len))
  case atStart => exact ⟨ao, cap, d, none, 0, none, 0, noE, [], N, by omega, by rw [hdl], by omega, by rw [hdl]; exact HR0.out, H0.out, HT0.out, by simp [noE], by omega⟩
  case round =>
    obtain ⟨ra, rc, l, ka0, kc0, va0, vc0, o0, acc, n, hgl, rfl, HK⟩ := hrel
    subst hgl
    have hl62 : l.length ≤ 2 ^ 61 := by have := HK.out.2.2.2.2.2; have := HS.out.2; omega
    obtain ⟨v1, v2, v3, hv, hvn⟩ := HK.out.2.2.1.row.slice'
    subst hv
    by_cases hq : 0 < l.length
    · have hq' : (0 : Int) < (l.length : Int) := by omega
      have hne : l ≠ [] := fun e => by rw [e] at hq; simp at hq
      obtain ⟨n', rfl⟩ : ∃ n', n = n' + 1 := ⟨n - 1, by have := HK.out.1; omega⟩
      obtain ⟨p1, p2⟩ := tA_step HK.out.2.2.2.1 hne
      have hte := tent_k ((HK.out.2.1 w HS.out.1).sl.later HK.out.2.2.1.bel) (by have := HK.out.2.2.2.2.2; have := HS.out.2; omega) HK.out.2.2.1.sk.1 HK.out.2.2.2.2.1
      have hls : (tE o0.key l).1 = 0 → (tE o0.key l).2.2.length < l.length := tE_less HK.out.2.2.2.2.1
      have hkl := tE_key o0.key l
      unfold ToldK entA at hte
      obtain ⟨⟨E, o, l'⟩, hE⟩ : ∃ x, tE o0.key l = x := ⟨_, rfl⟩
      rw [hE] at hte p1 p2 hls hkl
      simp only at hte p1 p2 hls hkl
      have HP := hid (And.intro p1 p2)
      have HLS : Hid ((E = 0 → l'.length < l.length) ∧ o.key.length ≤ 512) := ⟨hls, hkl⟩
      obtain ⟨y0, y1, y2, y3, y4, f0, f1, f2, f3, f4⟩ := HK.out.2.2.1.facts (Below.refl _ _)
      have HA : Hid (TAk w wr (.slice v1 v2 v3) (acc.take 401) ka0 kc0 va0 vc0 o0) := HK.out.2.2.1
      have HV2 : Hid (v2 = (acc.take 401).length) := hvn
      clear p1 p2 hE hls hkl hq hvn hne
      go_upto_region 6 with (go_at_call 100; refine hte.mono ?_; rintro e w1 ⟨ka, kc, va, vc, rv, rfl, K1, K2, I1, I2, s1, b1⟩; clear y0 y1 y2 y3 y4 f0 f1 f2 f3 f4; obtain ⟨y0, y1, y2, y3, y4, f0, f1, f2, f3, f4⟩ := HA.out.facts b1)
      obtain ⟨A1, A2, A3⟩ := HA.out.next b1 K1 K2
      obtain ⟨W1, hW1⟩ : ∃ W1, W1 = lay5 w.heap.size w1 (.slice ka o.key.length kc) (.int .i64 o.seq) (.bool o.gone) (.int .i64 o.till) (.slice va o.val.length vc) := ⟨_, rfl⟩
      rw [← hW1] at A1 A2 A3
      unfold lay5 at hW1
      rw [← hW1]
      have HA1 := hid A1
      have HA2 : Hid (Sg (fun b => wr.heap.size ≤ b) W1 ka kc o.key ∧ Sg (fun b => wr.heap.size ≤ b) W1 va vc o.val ∧ In64 o.seq ∧ In64 o.till) := ⟨A2, A3, I1, I2⟩
      have HR1 := hid (HK.out.2.1.trans s1)
      clear A1 A2 A3 hW1 K1 K2 I1 I2 s1 b1 hte y0 y1 y2 y3 y4 f0 f1 f2 f3 f4
      by_cases qE : E = 0
      · subst qE
        have HT1 := hid (HP.out.2 rfl)
        have HL1 := hid (HLS.out.1 rfl)
        obtain ⟨ra1, rc1, hrv⟩ := HR1.out.form HS.out.1
        subst hrv
        obtain ⟨y0, y1, y2, y3, y4, f0, f1, f2, f3, f4⟩ := HA1.out.facts (Below.refl _ _)
        have hv262 : v2 ≤ 2 ^ 61 := by have := HV2.out; rw [List.length_take] at this; omega
        have HLL : Hid (l'.length ≤ n' ∧ l'.length ≤ len) := ⟨by have := HK.out.1; have := HL1.out; omega, by have := HK.out.2.2.2.2.2; have := HL1.out; omega⟩
        by_cases q4 : v2 ≤ 400
        · have q4' : (v2 : Int) ≤ 400 := by omega
          have HRD := hid (HA1.out.ready HA.out.sz (fun b e => (HA.out.row.own_lt e).2) HA2.out.1 HA2.out.2.1 HA2.out.2.2.1 HA2.out.2.2.2)
          have HTK : Hid ((acc ++ [o]).take 401 = acc.take 401 ++ [o]) := take_more (by rw [← HV2.out]; exact q4)
          have HLA : Hid ((acc.take 401).length ≤ 401) := by show _ ≤ _; rw [List.length_take]; omega
          clear q4 HK
          go_wp2_with (at_builtin; refine wpList_appF entE (t := 22) (z := .agg #[.slice none 0 0, .int .i64 0, .bool false, .int .i64 0, .slice none 0 0]) (bytes := 72) (B := w.heap.size + 1) Try.underlying22 entE_info rfl (by decide) rfl (.tmp 24) (.tmp 26) rfl rfl HRD.out.1 rfl HRD.out.2.1 HRD.out.2.2.1 HRD.out.2.2.2.1 (by have := HLA.out; omega) (by have := HLA.out; omega) HRD.out.2.2.2.2.1 ?_; intro v9 w9 r9 g9 m9)
          have A9 := HRD.out.2.2.2.2.2 w9 v9 g9 r9
          rw [← HTK.out] at A9
          have HA9 := hid A9
          clear A9 r9 g9 m9 HRD
          go_roundg (l'.length)
          case measure => exact HL1.out
          case rel => exact ⟨ra1, rc1, l', ka, kc, va, vc, o, acc ++ [o], n', rfl, rfl, HLL.out.1, HR1.out, HA9.out, HT1.out, HLS.out.2, HLL.out.2⟩
        · have q4' : ¬ ((v2 : Int) ≤ 400) := by omega
          have HTK : Hid ((acc ++ [o]).take 401 = acc.take 401) := take_same (by rw [← HV2.out]; omega)
          clear q4 HK
          go_wp2_with fail
          go_roundg (l'.length)
          case measure => exact HL1.out
          case rel => exact ⟨ra1, rc1, l', ka, kc, va, vc, o, acc ++ [o], n', rfl, rfl, HLL.out.1, HR1.out, by rw [HTK.out]; exact HA1.out, HT1.out, HLS.out.2, HLL.out.2⟩
      · have hne : ((E : Int) != 0) = true := by simp; omega
        have HT1 := hid (HP.out.1 qE)
        have HQE := hid qE
        clear qE
        go_wp2_with fail
        exact bodyPost_ret (v := .tuple #[.slice none 0 0, .int .i64 (E : Nat)]) (by simp [results, Try.results81, go_sem]) rfl ⟨.slice none 0 0, by rw [HER.out.1, HT1.out], by rw [HER.out.2, HT1.out, if_neg HQE.out]; exact RGV.nil _ _, HA1.out.bel⟩
    · have hq' : ¬ ((0 : Int) < (l.length : Int)) := by omega
      have hl0 : l = [] := List.eq_nil_of_length_eq_zero (by omega)
      have HTT : Hid (T = (0, acc)) := by show _ = _; rw [HK.out.2.2.2.1, hl0, tA_nil]; simp
      have HA := hid HK.out.2.2.1
      clear hq hl0 HK hvn
      go_wp2_with fail
      exact bodyPost_ret (v := .tuple #[.slice v1 v2 v3, .int .i64 0]) (by simp [results, Try.results81, go_sem]) rfl ⟨.slice v1 v2 v3, by rw [HER.out.1, HTT.out]; rfl, by rw [HER.out.2, HTT.out]; exact RGV.ofRow HA.out.row (Nat.le_succ _), HA.out.bel⟩
theorem tall_k {w : World} {ao : Option Addr} {len cap : Nat} {d : List Int} (h : Sl w ao len cap d) (hl : len ≤ 5000000) {N : Nat} (hN : len ≤ N) :
    Calls Try.prog 81 #[.slice ao len cap] w fun e w' => ∃ v, e = .returned (.tuple #[v, .int .i64 ((tA N [] d).1 : Nat)]) ∧ RSV entE w' v (if (tA N [] d).1 = 0 then (tA N [] d).2.take 401 else []) ∧ Below w.heap.size w w' := (tallG_k h hl hN).mono fun e w' ⟨v, h1, h2, h3⟩ => ⟨v, h1, h2.rsv, h3⟩
end Go.Proofs.Ytfecopldepnicaa

/- The landed block: Decode. -/
namespace Go.Proofs.Ytfecopldepnicaa
open Go.RowKit
set_option linter.unusedVariables false
set_option linter.unusedSimpArgs false

/-- What cut answers; the restarts' places. -/
def cutE (d : List Int) : Nat := if d.length < 4 then 5 else if lastN d = 0 ∨ (d.length - 4) / 4 < lastN d then 3 else 0
def plcN (d : List Int) : List Int := (d.drop (d.length - 4 - 4 * lastN d)).take (4 * lastN d)
theorem Rests.upto {ao : Option Addr} {len cap : Nat} {d : List Int} (j : Nat) (hj : j ≤ len) (hd : d.length = len) : Rests ao len cap d (.slice (cutA ao cap 0) j cap) (d.take j) := fun w h => by
  have e : (d.take j).length = j := by rw [List.length_take, hd]; omega
  exact ⟨_, _, by rw [e], by rw [e]; exact h.upto0 j hj⟩
theorem Rests.mid {ao : Option Addr} {len cap : Nat} {d : List Int} (i j : Nat) (hi : i ≤ j) (hj : j ≤ len) (hd : d.length = len) : Rests ao len cap d (.slice (cutA ao cap i) (j - i) (cap - i)) ((d.drop i).take (j - i)) := fun w h => by
  have e : ((d.drop i).take (j - i)).length = j - i := by rw [List.length_take, List.length_drop, hd]; omega
  exact ⟨_, _, by rw [e], by rw [e]; exact h.cut i j hi hj⟩
theorem lastN_lt {d : List Int} (hok : Okb d) (h : 4 ≤ d.length) : lastN d < 4294967296 := by
  unfold lastN
  have := fv_lt (xof (d.drop (d.length - 4))) 4 (fun j hj => by
    have hl : (d.drop (d.length - 4)).length = 4 := by rw [List.length_drop]; omega
    have hx := xof_at (xs := d.drop (d.length - 4)) (k := j) (fun x hx => hok x (List.mem_of_mem_drop hx)) (by omega)
    have hb := hok _ (List.mem_of_mem_drop (List.getElem_mem (l := d.drop (d.length - 4)) (n := j) (by omega)))
    omega)
  omega

set_option maxHeartbeats 2000000 in
set_option maxRecDepth 100000 in
theorem cut_k {w : World} {ao : Option Addr} {len cap : Nat} {d : List Int} (h : Sl w ao len cap d) (hl : len ≤ 5000000) :
    Calls Try.prog 80 #[.slice ao len cap] w fun e w' => ∃ v u, e = .returned (.tuple #[v, u, .int .i64 (cutE d : Nat)]) ∧ (cutE d = 0 → Rests ao len cap d v (bodyN d) ∧ Rests ao len cap d u (plcN d)) ∧ Below w.heap.size w w' := by
  have hln := h.1
  have hcap := h.2.2.2.1
  by_cases q : len < 4
  · have hE : cutE d = 5 := by unfold cutE; rw [if_pos (by omega)]
    rw [hE]
    have hr := read_any (cutA ao cap 0) (len - 0) (cap - 0) (xof (d.drop 0)) 4 w (h.from 0 (Nat.zero_le _)).2.2.2.2.2 (by omega)
    unfold readV at hr
    rw [if_pos (by unfold InSize; omega), if_pos (by omega)] at hr
    have hcf : ∀ w, (Instr.slice 25 (.slice ao len cap) (some (.int .i64 0)) none none).run Try.prog w = .ok (.slice (cutA ao cap 0) (len - 0) (cap - 0)) w := fun w => run_from w ao len cap 0 (Nat.zero_le _) hcap
    generalize cutA ao cap 0 = a0 at hr hcf
    generalize len - 0 = l0 at hr hcf
    generalize cap - 0 = c0 at hr hcf
    have q' : (len : Int) < 4 := by omega
    have hl62 : len ≤ 2 ^ 61 := by omega
    have hwm : wrap64 ((len : Int) - 4) = (len : Int) - 4 := by unfold wrap64; omega
    have hmx : max ((len : Int) - 4) 0 = 0 := by omega
    clear h hl hln hcap hE q
    go_enter Try.func80, Try.ntmps80
    go_wp2_with (go_at_call 96; refine hr.mono ?_; rintro e w' ⟨rfl, hw⟩; obtain rfl := hw.symm)
    exact bodyPost_ret (v := .tuple #[.slice none 0 0, .slice none 0 0, .int .i64 5]) (by simp [results, Try.results80, go_sem]) rfl ⟨_, _, rfl, (fun q => by cases q), Below.refl _ _⟩
  · have hr := read_any (cutA ao cap (len - 4)) (len - (len - 4)) (cap - (len - 4)) (xof (d.drop (len - 4))) 4 w (h.from (len - 4) (by omega)).2.2.2.2.2 (by omega)
    unfold readV at hr
    rw [if_pos (by unfold InSize; omega), if_neg (by omega)] at hr
    have hcf := fun w => run_from w ao len cap (len - 4) (by omega) hcap
    have hlt := lastN_lt h.2.1 (by omega)
    have hE : cutE d = if lastN d = 0 ∨ (len - 4) / 4 < lastN d then 3 else 0 := by unfold cutE; rw [if_neg (by omega), hln]
    have hR1 : lastN d ≠ 0 ∧ lastN d ≤ (len - 4) / 4 → Rests ao len cap d (.slice (cutA ao cap 0) (len - 4 - 4 * lastN d) cap) (bodyN d) ∧ Rests ao len cap d (.slice (cutA ao cap (len - 4 - 4 * lastN d)) (len - 4 - (len - 4 - 4 * lastN d)) (cap - (len - 4 - 4 * lastN d))) (plcN d) := fun hq => by
      refine ⟨?_, ?_⟩
      · unfold bodyN; rw [hln]; exact Rests.upto _ (by omega) hln
      · have := Rests.mid (ao := ao) (cap := cap) (d := d) (len := len) (len - 4 - 4 * lastN d) (len - 4) (by omega) (by omega) hln
        unfold plcN
        rw [hln]
        rw [show len - 4 - (len - 4 - 4 * lastN d) = 4 * lastN d by omega] at this ⊢
        exact this
    have hN : fv (xof (d.drop (len - 4))) (4 : Int).toNat = lastN d := by unfold lastN; rw [hln]; rfl
    rw [hN] at hr
    rw [hE]
    generalize lastN d = n at hr hlt hR1
    have HR := hid hR1
    obtain ⟨M, hM⟩ : ∃ M, len = M + 4 := ⟨len - 4, by omega⟩
    subst hM
    rw [show M + 4 - 4 = M by omega] at hr hcf HR ⊢
    have hM62 : M ≤ 2 ^ 61 := by omega
    have hwm : wrap64 (((M + 4 : Nat) : Int) - 4) = (M : Int) := by unfold wrap64; omega
    have hwm2 : wrap64 ((M : Int) + 4 - 4) = (M : Int) := by unfold wrap64; omega
    have hmx : max (M : Int) 0 = (M : Int) := by omega
    have hn62 : n ≤ 2 ^ 61 := by omega
    generalize hX1 : M + 4 - M = X1 at hr hcf
    generalize cutA ao cap M = a1 at hr hcf
    generalize hX2 : cap - M = X2 at hr hcf
    have hd4 : Int.tdiv (M : Int) 4 = ((M / 4 : Nat) : Int) := by rw [Int.tdiv_eq_ediv_of_nonneg (by omega)]; omega
    have hd5 : (M : Int) / 4 = ((M / 4 : Nat) : Int) := by omega
    have hD62 : M / 4 ≤ 2 ^ 61 := by omega
    by_cases q0 : n = 0
    · subst q0
      rw [if_pos (.inl rfl)]
      clear HR hR1 hE hN hX1 hX2 hd4 hd5 hD62 hlt hwm
      have hcf' := hcf
      clear h hl hln hcap q
      go_enter Try.func80, Try.ntmps80
      go_wp2_with (go_at_call 96; refine hr.mono ?_; rintro e w' ⟨rfl, hw⟩; obtain rfl := hw.symm)
      exact bodyPost_ret (v := .tuple #[.slice none 0 0, .slice none 0 0, .int .i64 3]) (by simp [results, Try.results80, go_sem]) rfl ⟨_, _, rfl, (fun q => by cases q), Below.refl _ _⟩
    · have q0' : ((n : Int) == 0) = false := by simp; omega
      have q00 : ¬ ((n : Int) = 0) := by omega
      by_cases q1 : M / 4 < n
      · rw [if_pos (.inr q1)]
        have q1' : ((M / 4 : Nat) : Int) < (n : Int) := by omega
        generalize M / 4 = D at q1' hd4 hd5 hD62
        clear HR hR1 hE hN hX1 hX2 hlt hwm h hl hln hcap q q1 q0
        go_enter Try.func80, Try.ntmps80
        go_wp2_with (go_at_call 96; refine hr.mono ?_; rintro e w' ⟨rfl, hw⟩; obtain rfl := hw.symm)
        exact bodyPost_ret (v := .tuple #[.slice none 0 0, .slice none 0 0, .int .i64 3]) (by simp [results, Try.results80, go_sem]) rfl ⟨_, _, rfl, (fun q => by cases q), Below.refl _ _⟩
      · rw [if_neg (by omega)]
        obtain ⟨r1, r2⟩ := HR.out ⟨q0, by omega⟩
        have q1' : (n : Int) ≤ ((M / 4 : Nat) : Int) := by omega
        have q1'' : ¬ (((M / 4 : Nat) : Int) < (n : Int)) := by omega
        have hw4 : wrap64 ((n : Int) * 4) = (n : Int) * 4 := by unfold wrap64; omega
        obtain ⟨B, hB⟩ : ∃ B, M = B + 4 * n := ⟨M - 4 * n, by omega⟩
        have hw5 : wrap64 ((M : Int) - (n : Int) * 4) = (B : Int) := by unfold wrap64; omega
        have hB62 : B ≤ 2 ^ 61 := by omega
        have hBM : M - 4 * n = B := by omega
        rw [hBM] at r1 r2
        have hcu := run_uptoK .i64 ao (M + 4) cap B (by omega)
        have hcm := fun w => run_cut w ao (M + 4) cap B M (by omega) (by omega)
        have hBi : ((B : Nat) : Int) = (M : Int) - (n : Int) * 4 := by omega
        simp only [hBi] at hcu hcm
        rw [hBi] at hw5
        generalize M / 4 = D at q1' q1'' hd4 hd5 hD62
        have HR1 := hid r1
        have HR2 := hid r2
        generalize cutA ao cap 0 = b0 at hcu HR1
        generalize cutA ao cap B = b1 at hcm HR2
        generalize M - B = B2 at hcm HR2
        clear HR hR1 hE hN hX1 hX2 hlt hwm h hl hln hcap q q1 q0 r1 r2 hB hBM hBi
        go_enter Try.func80, Try.ntmps80
        go_wp2_with (go_at_call 96; refine hr.mono ?_; rintro e w' ⟨rfl, hw⟩; obtain rfl := hw.symm)
        go_quiet (fail)
        go_wp2_with fail
        exact bodyPost_ret (v := .tuple #[.slice b0 B cap, .slice b1 B2 (cap - B), .int .i64 0]) (by simp [results, Try.results80, go_sem]) rfl ⟨_, _, rfl, (fun _ => ⟨HR1.out, HR2.out⟩), below_drewN (Below.refl _ _) _⟩

set_option maxHeartbeats 2000000 in
set_option maxRecDepth 100000 in
theorem decG_k {w : World} {ao : Option Addr} {len cap : Nat} {d : List Int} (h : Sl w ao len cap d) (hl : len ≤ 5000000) :
    Calls Try.prog 54 #[.slice ao len cap] w fun e w' => ∃ v, e = .returned (.tuple #[v, .int .i64 (tkEL d : Nat)]) ∧ RGV w.heap.size w' v (tkBL d) ∧ Below w.heap.size w w' := by
  have hcu := cut_k h hl
  have HS : Hid (Sl w ao len cap d ∧ len ≤ 5000000 ∧ d.length = len) := ⟨h, hl, h.1⟩
  by_cases q0 : cutE d = 0
  · rw [q0] at hcu
    have HTA : Hid (∀ {wx a n c}, Sl wx a n c (bodyN d) → n ≤ len → Calls Try.prog 81 #[.slice a n c] wx fun e w' => ∃ v, e = .returned (.tuple #[v, .int .i64 ((allL d).1 : Nat)]) ∧ RGV wx.heap.size w' v (if (allL d).1 = 0 then (allL d).2.take 401 else []) ∧ Below wx.heap.size wx w') := fun {wx a n c} hs hn => tallG_k (N := d.length) hs (by have := HS.out; omega) (by have := HS.out; omega)
    have hE : tkEL d = if (allL d).1 ≠ 0 then (allL d).1 else if blkE ((allL d).2.take 401) ≠ 0 ∨ blkB ((allL d).2.take 401) ≠ d then 3 else 0 := by
      unfold tkEL
      unfold cutE at q0
      split at q0
      · cases q0
      · rename_i z
        rw [if_neg z]
        split at q0
        · cases q0
        · rename_i z2
          rw [if_neg z2]
    have hBo : (bodyN d).length ≤ len := by unfold bodyN; rw [List.length_take]; have := HS.out; omega
    have HB : Hid (tkBL d = if tkEL d = 0 then (allL d).2.take 401 else []) := rfl
    obtain ⟨⟨E1, L⟩, hA⟩ : ∃ x, allL d = x := ⟨_, rfl⟩
    rw [hA] at hE HTA HB
    simp only at hE HTA HB
    have HBO := hid hBo
    clear h hl q0 hA hBo
    by_cases q1 : E1 = 0
    · subst q1
      rw [if_pos rfl] at HTA
      rw [if_neg (by simp)] at hE
      have HM : Hid ((L.take 401).length ≤ 401) := by show _ ≤ _; rw [List.length_take]; omega
      generalize L.take 401 = M at HTA hE HB HM
      by_cases q2 : blkE M = 0
      · have HEN : Hid (∀ {wx a c}, RS entE wx a M.length c M → M.length ≤ 401 → Calls Try.prog 62 #[.slice a M.length c] wx fun e w' => ∃ a' c', e = .returned (.tuple #[.slice a' (blkB M).length c', .int .i64 0]) ∧ Sl w' a' (blkB M).length c' (blkB M) ∧ Below wx.heap.size wx w') := fun {wx a c} hs hn => by
          refine (encR_k hs (by omega)).mono ?_
          rintro e w' ⟨v, he, hr, hb⟩
          rw [q2] at he
          rw [if_pos q2] at hr
          obtain ⟨a', c', hv, hs'⟩ := Sl.ofRow hr (okb_blkB hs.okE)
          exact ⟨a', c', by rw [he, hv]; rfl, hs', hb⟩
        by_cases q3 : blkB M = d
        · have hE0 : tkEL d = 0 := by rw [hE, if_neg (by simp [q2, q3])]
          rw [hE0]
          have HBB : Hid (tkBL d = M) := by show _ = _; rw [HB.out, if_pos hE0]
          have HD : Hid (decide (blkB M = d) = true) := decide_eq_true q3
          generalize (blkB M).length = X at HEN
          generalize blkB M = Y at HEN HD
          clear hE hE0 q2 q3
          go_enter Try.func54, Try.ntmps54
          go_upto_region 4 with (go_at_call 80; refine hcu.mono ?_; rintro e w1 ⟨v1, u1, rfl, hr1, b1⟩)
          obtain ⟨s1, s2⟩ := hr1 (by first | exact trivial | rfl)
          obtain ⟨a1, c1, hv1, K1⟩ := s1 w HS.out.1
          subst hv1
          have hta := HTA.out (K1.later b1) HBO.out
          go_upto_region 7 with (go_at_call 81; refine hta.mono ?_; rintro e w2 ⟨v2, rfl, ⟨a2, c2, rfl, rs2, rb2⟩, b2⟩)
          have hen := HEN.out rs2.rs HM.out
          have B2 := b1.trans (b2.mono b1.size)
          have HR2 := hid rs2
          have HRB2 := hid rb2
          have HSZ1 := hid b1.size
          go_upto_region 8 with (go_at_call 62; refine hen.mono ?_; rintro e w3 ⟨a3, c3, rfl, s3, b3⟩)
          have B3 := B2.trans (b3.mono B2.size)
          have heq := eql_m s3 (HS.out.1.later B3)
          rw [HD.out] at heq
          have HR3 := hid (HR2.out.later b3)
          clear hcu hta hen rs2 rb2 s1 s2 hr1 K1
          go_wp2_with (go_at_call 50; refine heq.mono ?_; rintro e w4 ⟨rfl, hw⟩; obtain rfl := hw.symm)
          exact bodyPost_ret (v := .tuple #[.slice a2 M.length c2, .int .i64 0]) (by simp [results, Try.results54, go_sem]) rfl ⟨_, rfl, by rw [HBB.out]; exact ⟨a2, c2, rfl, HR3.out.weakG fun b hb => Nat.le_trans HSZ1.out hb, fun b o eb => Nat.le_trans HSZ1.out (HRB2.out b o eb)⟩, B3⟩
        · have hE0 : tkEL d = 3 := by rw [hE, if_pos (.inr q3)]
          rw [hE0]
          have HBB : Hid (tkBL d = []) := by show _ = _; rw [HB.out, if_neg (by rw [hE0]; decide)]
          have HD : Hid (decide (blkB M = d) = false) := decide_eq_false q3
          generalize (blkB M).length = X at HEN
          generalize blkB M = Y at HEN HD
          clear hE hE0 q2 q3
          go_enter Try.func54, Try.ntmps54
          go_upto_region 4 with (go_at_call 80; refine hcu.mono ?_; rintro e w1 ⟨v1, u1, rfl, hr1, b1⟩)
          obtain ⟨s1, s2⟩ := hr1 (by first | exact trivial | rfl)
          obtain ⟨a1, c1, hv1, K1⟩ := s1 w HS.out.1
          subst hv1
          have hta := HTA.out (K1.later b1) HBO.out
          go_upto_region 7 with (go_at_call 81; refine hta.mono ?_; rintro e w2 ⟨v2, rfl, ⟨a2, c2, rfl, rs2, rb2⟩, b2⟩)
          have hen := HEN.out rs2.rs HM.out
          have B2 := b1.trans (b2.mono b1.size)
          go_upto_region 8 with (go_at_call 62; refine hen.mono ?_; rintro e w3 ⟨a3, c3, rfl, s3, b3⟩)
          have B3 := B2.trans (b3.mono B2.size)
          have heq := eql_m s3 (HS.out.1.later B3)
          rw [HD.out] at heq
          clear hcu hta hen rs2 rb2 s1 s2 hr1 K1
          go_wp2_with (go_at_call 50; refine heq.mono ?_; rintro e w4 ⟨rfl, hw⟩; obtain rfl := hw.symm)
          exact bodyPost_ret (v := .tuple #[.slice none 0 0, .int .i64 3]) (by simp [results, Try.results54, go_sem]) rfl ⟨_, rfl, by rw [HBB.out]; exact RGV.nil _ _, B3⟩
      · have hE0 : tkEL d = 3 := by rw [hE, if_pos (.inl q2)]
        rw [hE0]
        have HBB : Hid (tkBL d = []) := by show _ = _; rw [HB.out, if_neg (by rw [hE0]; decide)]
        have HEN : Hid (∀ {wx a c}, RS entE wx a M.length c M → M.length ≤ 401 → Calls Try.prog 62 #[.slice a M.length c] wx fun e w' => ∃ v', e = .returned (.tuple #[v', .int .i64 (blkE M : Nat)]) ∧ Below wx.heap.size wx w') := fun {wx a c} hs hn => (encR_k hs (by omega)).mono fun e w' ⟨v, he, hr, hb⟩ => ⟨v, he, hb⟩
        have hne : ((blkE M : Int) != 0) = true := by simp; omega
        generalize blkE M = EE at HEN hne
        clear hE hE0 q2
        go_enter Try.func54, Try.ntmps54
        go_upto_region 4 with (go_at_call 80; refine hcu.mono ?_; rintro e w1 ⟨v1, u1, rfl, hr1, b1⟩)
        obtain ⟨s1, s2⟩ := hr1 (by first | exact trivial | rfl)
        obtain ⟨a1, c1, hv1, K1⟩ := s1 w HS.out.1
        subst hv1
        have hta := HTA.out (K1.later b1) HBO.out
        go_upto_region 7 with (go_at_call 81; refine hta.mono ?_; rintro e w2 ⟨v2, rfl, ⟨a2, c2, rfl, rs2, rb2⟩, b2⟩)
        have hen := HEN.out rs2.rs HM.out
        have B2 := b1.trans (b2.mono b1.size)
        clear hcu hta rs2 rb2 s1 s2 hr1 K1
        go_wp2_with (go_at_call 62; refine hen.mono ?_; rintro e w3 ⟨v3, rfl, b3⟩)
        exact bodyPost_ret (v := .tuple #[.slice none 0 0, .int .i64 3]) (by simp [results, Try.results54, go_sem]) rfl ⟨_, rfl, by rw [HBB.out]; exact RGV.nil _ _, B2.trans (b3.mono B2.size)⟩
    · rw [if_pos q1] at hE
      rw [hE]
      have HBB : Hid (tkBL d = []) := by show _ = _; rw [HB.out, if_neg (by rw [hE]; exact q1)]
      rw [if_neg q1] at HTA
      have hne : ((E1 : Int) != 0) = true := by simp; omega
      clear hE q1
      go_enter Try.func54, Try.ntmps54
      go_upto_region 4 with (go_at_call 80; refine hcu.mono ?_; rintro e w1 ⟨v1, u1, rfl, hr1, b1⟩)
      obtain ⟨s1, s2⟩ := hr1 (by first | exact trivial | rfl)
      obtain ⟨a1, c1, hv1, K1⟩ := s1 w HS.out.1
      subst hv1
      have hta := HTA.out (K1.later b1) HBO.out
      clear hcu s1 s2 hr1 K1
      go_wp2_with (go_at_call 81; refine hta.mono ?_; rintro e w2 ⟨v2, rfl, rs2, b2⟩)
      exact bodyPost_ret (v := .tuple #[.slice none 0 0, .int .i64 (E1 : Nat)]) (by simp [results, Try.results54, go_sem]) rfl ⟨_, rfl, by rw [HBB.out]; exact RGV.nil _ _, b1.trans (b2.mono b1.size)⟩
  · have hE : tkEL d = cutE d := by
      unfold tkEL
      unfold cutE at q0 ⊢
      split
      · rfl
      · rename_i z
        rw [if_neg z] at q0
        split
        · rfl
        · rename_i z2
          rw [if_neg z2] at q0
          exact absurd rfl q0
    rw [hE]
    have HBB : Hid (tkBL d = []) := by show _ = _; unfold tkBL; rw [if_neg (by rw [hE]; exact q0)]
    have hne : ((cutE d : Int) != 0) = true := by simp; omega
    generalize cutE d = E0 at hcu hne
    clear hE q0 h hl
    go_enter Try.func54, Try.ntmps54
    go_wp2_with (go_at_call 80; refine hcu.mono ?_; rintro e w1 ⟨v1, u1, rfl, hr1, b1⟩)
    exact bodyPost_ret (v := .tuple #[.slice none 0 0, .int .i64 (E0 : Nat)]) (by simp [results, Try.results54, go_sem]) rfl ⟨_, rfl, by rw [HBB.out]; exact RGV.nil _ _, b1⟩
theorem dec_k {w : World} {ao : Option Addr} {len cap : Nat} {d : List Int} (h : Sl w ao len cap d) (hl : len ≤ 5000000) :
    Calls Try.prog 54 #[.slice ao len cap] w fun e w' => ∃ v, e = .returned (.tuple #[v, .int .i64 (tkEL d : Nat)]) ∧ RSV entE w' v (tkBL d) ∧ Below w.heap.size w w' := (decG_k h hl).mono fun e w' ⟨v, h1, h2, h3⟩ => ⟨v, h1, h2.rsv, h3⟩
end Go.Proofs.Ytfecopldepnicaa
