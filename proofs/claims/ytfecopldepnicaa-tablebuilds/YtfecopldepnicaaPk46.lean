import Derived.Test.YtfecopldepnicaaPk08
import Derived.Test.YtfecopldepnicaaPk17
import Derived.Test.YtfecopldepnicaaPk41
import Derived.Test.YtfecopldepnicaaPk42
import Derived.Test.YtfecopldepnicaaPk44
import Derived.Test.YtfecopldepnicaaPk45
/- The landed block: Seek. -/
namespace Go.Proofs.Ytfecopldepnicaa
open Go.RowKit
set_option linter.unusedVariables false
set_option linter.unusedSimpArgs false

/-- Where the walk stands: the answer's place, the entry ahead. -/
structure SKs (w : World) (q : Nat) (wx : World) (ka : Option Addr) (kc : Nat) (va : Option Addr) (vc : Nat) (o : EntV) : Prop where
  bR : wx.heap[w.heap.size]? = some (.cells #[.slice none 0 0, .int .i64 0, .bool false, .int .i64 0, .slice none 0 0] 34 (0, 0))
  bo : wx.heap[q]? = some (.cells #[.slice ka o.key.length kc, .int .i64 o.seq, .bool o.gone, .int .i64 o.till, .slice va o.val.length vc] 34 (0, 0))
  sk : Sg (fun b => q + 1 ≤ b) wx ka kc o.key
  sv : Sg (fun b => q + 1 ≤ b) wx va vc o.val
  i1 : In64 o.seq
  i2 : In64 o.till
  bel : Below w.heap.size w wx
  hq : w.heap.size < q
theorem SKs.later {w : World} {q : Nat} {wx : World} {ka : Option Addr} {kc : Nat} {va : Option Addr} {vc : Nat} {o : EntV} {wy : World} (h : SKs w q wx ka kc va vc o) (hb : Below wx.heap.size wx wy) : SKs w q wy ka kc va vc o :=
  ⟨(hb.block _ (Array.getElem?_eq_some_iff.1 h.bR).1).trans h.bR, (hb.block _ (Array.getElem?_eq_some_iff.1 h.bo).1).trans h.bo, h.sk.later hb, h.sv.later hb, h.i1, h.i2, h.bel.trans (hb.mono h.bel.size), h.hq⟩
theorem SKs.facts {w : World} {q : Nat} {wx : World} {ka : Option Addr} {kc : Nat} {va : Option Addr} {vc : Nat} {o : EntV} (h : SKs w q wx ka kc va vc o) :
    wx.cell? ⟨q, 0, none⟩ = some (.slice ka o.key.length kc) ∧ wx.cell? ⟨q, 1, none⟩ = some (.int .i64 o.seq) ∧ wx.cell? ⟨q, 2, none⟩ = some (.bool o.gone) ∧ wx.cell? ⟨q, 3, none⟩ = some (.int .i64 o.till) ∧ wx.cell? ⟨q, 4, none⟩ = some (.slice va o.val.length vc) ∧
    wx.frozen? ⟨q, 0, none⟩ = false ∧ wx.frozen? ⟨q, 1, none⟩ = false ∧ wx.frozen? ⟨q, 2, none⟩ = false ∧ wx.frozen? ⟨q, 3, none⟩ = false ∧ wx.frozen? ⟨q, 4, none⟩ = false :=
  ⟨by rw [cell_of h.bo]; rfl, by rw [cell_of h.bo]; rfl, by rw [cell_of h.bo]; rfl, by rw [cell_of h.bo]; rfl, by rw [cell_of h.bo]; rfl, frozen_of h.bo 0, frozen_of h.bo 1, frozen_of h.bo 2, frozen_of h.bo 3, frozen_of h.bo 4⟩
/-- The answer's place, before it is laid. -/
theorem resK {wx : World} {p : Nat} (h : wx.heap[p]? = some (.cells #[.slice none 0 0, .int .i64 0, .bool false, .int .i64 0, .slice none 0 0] 34 (0, 0))) :
    wx.cell? ⟨p, 0, none⟩ = some (.slice none 0 0) ∧ wx.cell? ⟨p, 1, none⟩ = some (.int .i64 0) ∧ wx.cell? ⟨p, 2, none⟩ = some (.bool false) ∧ wx.cell? ⟨p, 3, none⟩ = some (.int .i64 0) ∧ wx.cell? ⟨p, 4, none⟩ = some (.slice none 0 0) ∧
    wx.frozen? ⟨p, 0, none⟩ = false ∧ wx.frozen? ⟨p, 1, none⟩ = false ∧ wx.frozen? ⟨p, 2, none⟩ = false ∧ wx.frozen? ⟨p, 3, none⟩ = false ∧ wx.frozen? ⟨p, 4, none⟩ = false :=
  ⟨by rw [cell_of h]; rfl, by rw [cell_of h]; rfl, by rw [cell_of h]; rfl, by rw [cell_of h]; rfl, by rw [cell_of h]; rfl, frozen_of h 0, frozen_of h 1, frozen_of h 2, frozen_of h 3, frozen_of h 4⟩
/-- The answer is laid. -/
theorem finK {w wx : World} (h : wx.heap[w.heap.size]? = some (.cells #[.slice none 0 0, .int .i64 0, .bool false, .int .i64 0, .slice none 0 0] 34 (0, 0))) (bel : Below w.heap.size w wx) (x0 x1 x2 x3 x4 : Value) :
    (lay5 w.heap.size wx x0 x1 x2 x3 x4).cell? ⟨w.heap.size, 0, none⟩ = some x0 ∧ (lay5 w.heap.size wx x0 x1 x2 x3 x4).cell? ⟨w.heap.size, 1, none⟩ = some x1 ∧ (lay5 w.heap.size wx x0 x1 x2 x3 x4).cell? ⟨w.heap.size, 2, none⟩ = some x2 ∧ (lay5 w.heap.size wx x0 x1 x2 x3 x4).cell? ⟨w.heap.size, 3, none⟩ = some x3 ∧ (lay5 w.heap.size wx x0 x1 x2 x3 x4).cell? ⟨w.heap.size, 4, none⟩ = some x4 ∧ Below w.heap.size w (lay5 w.heap.size wx x0 x1 x2 x3 x4) := by
  have hb := lay5_block h x0 x1 x2 x3 x4
  refine ⟨?_, ?_, ?_, ?_, ?_, Below.grown bel (lay5_grown _ wx x0 x1 x2 x3 x4) bel.size fun k e => ?_⟩
  · rw [cell_of hb]; rfl
  · rw [cell_of hb]; rfl
  · rw [cell_of hb]; rfl
  · rw [cell_of hb]; rfl
  · rw [cell_of hb]; rfl
  · simp only [Option.some.injEq] at e
    omega
/-- The next entry is laid in its place. -/
theorem SKs.next {w : World} {q : Nat} {wx wy : World} {ka0 : Option Addr} {kc0 : Nat} {va0 : Option Addr} {vc0 : Nat} {o0 : EntV} (h : SKs w q wx ka0 kc0 va0 vc0 o0) (hb : Below wx.heap.size wx wy) {ka : Option Addr} {kc : Nat} {va : Option Addr} {vc : Nat} {o : EntV}
    (hk : Sg (fun b => wx.heap.size ≤ b) wy ka kc o.key) (hv : Sg (fun b => wx.heap.size ≤ b) wy va vc o.val) (h1 : In64 o.seq) (h2 : In64 o.till) : SKs w q (lay5 q wy (.slice ka o.key.length kc) (.int .i64 o.seq) (.bool o.gone) (.int .i64 o.till) (.slice va o.val.length vc)) ka kc va vc o := by
  have hg := lay5_grown q wy (.slice ka o.key.length kc) (.int .i64 o.seq) (.bool o.gone) (.int .i64 o.till) (.slice va o.val.length vc)
  have H := h.later hb
  have hql := (Array.getElem?_eq_some_iff.1 h.bo).1
  have hwq := h.hq
  refine ⟨?_, lay5_block H.bo _ _ _ _ _, (hk.grown hg fun b hb e => ?_).weak fun b _ hb => by omega, (hv.grown hg fun b hb e => ?_).weak fun b _ hb => by omega, h1, h2, Below.grown H.bel hg H.bel.size fun k e => ?_, hwq⟩
  · rw [hg.block _ (Array.getElem?_eq_some_iff.1 H.bR).1 (fun e => by simp only [Option.some.injEq] at e; omega)]
    exact H.bR
  · simp only [Option.some.injEq] at e; omega
  · simp only [Option.some.injEq] at e; omega
  · simp only [Option.some.injEq] at e; omega
theorem SKs.got {w : World} {q : Nat} {wx : World} {ka : Option Addr} {kc : Nat} {va : Option Addr} {vc : Nat} {o : EntV} (h : SKs w q wx ka kc va vc o) : GotE w.heap.size (some o) (.returned (.tuple #[.agg #[.slice ka o.key.length kc, .int .i64 o.seq, .bool o.gone, .int .i64 o.till, .slice va o.val.length vc], .bool true])) (lay5 w.heap.size wx (.slice ka o.key.length kc) (.int .i64 o.seq) (.bool o.gone) (.int .i64 o.till) (.slice va o.val.length vc)) := by
  have hg := lay5_grown w.heap.size wx (.slice ka o.key.length kc) (.int .i64 o.seq) (.bool o.gone) (.int .i64 o.till) (.slice va o.val.length vc)
  have hwq := h.hq
  have k1 := h.sk.grown hg fun b hb e => by simp only [Option.some.injEq] at e; omega
  have k2 := h.sv.grown hg fun b hb e => by simp only [Option.some.injEq] at e; omega
  exact .inr ⟨o, ka, kc, va, vc, rfl, rfl, ⟨ka, kc, va, vc, rfl, k1.1, k2.1, h.i1, h.i2⟩, fun u hu b hr => by
    unfold entL at hu
    simp only [List.mem_cons, List.not_mem_nil, or_false] at hu
    rcases hu with rfl | rfl | rfl | rfl | rfl
    · have := k1.2 b hr; omega
    · exact (refs_int hr).elim
    · exact (refs_bool hr).elim
    · exact (refs_int hr).elim
    · have := k2.2 b hr; omega⟩
theorem skE_nil (key : List Int) (s : Int) : skE [] key s = none := rfl
theorem skE_cons {e : EntV} {r : List EntV} {key : List Int} {s : Int} : skE (e :: r) key s = if ahK e key s = true then skE r key s else some e := by
  rw [skE_ahK, skE_ahK, List.find?_cons]
  cases ahK e key s <;> rfl
theorem enEs_nil {j : Nat} {p : List Int} {l : List EntV} (h : (enEs j p l).length = 0) : l = [] := by
  cases l with
  | nil => rfl
  | cons e r =>
    have := enE_pos (shI j e.key p) e
    unfold enEs at h
    rw [List.length_append] at h
    omega
/-- Where Decode takes, cut does. -/
theorem cutE_of {d : List Int} (h : tkEL d = 0) : cutE d = 0 := by
  unfold tkEL at h
  unfold cutE
  split at h
  · cases h
  · rename_i z
    rw [if_neg z]
    split at h
    · cases h
    · rename_i z2
      rw [if_neg z2]

set_option maxHeartbeats 4000000 in
set_option maxRecDepth 100000 in
theorem sekB_k {w : World} {ao ka0 : Option Addr} {len cap kl kc0 : Nat} {d key : List Int} {s : Int} (h : Sl w ao len cap d) (hl : len ≤ 2000000) (hk : Sl w ka0 kl kc0 key) (hs : In64 s) :
    Calls Try.prog 77 #[.slice ao len cap, .slice ka0 kl kc0, .int .i64 s] w fun r w' => (∃ B, w.heap.size ≤ B ∧ GotE B (skE (tkB d) key s) r w') ∧ Below w.heap.size w w' := by
  obtain ⟨W0, hW0⟩ : ∃ W0, W0 = w.alloc (.cells #[.slice none 0 0, .int .i64 0, .bool false, .int .i64 0, .slice none 0 0] 34) := ⟨_, rfl⟩
  have hb0 : Below w.heap.size w W0 := by rw [hW0]; exact (Below.refl _ _).alloc (Nat.le_refl _) _
  have hz0 : W0.heap[w.heap.size]? = some (.cells #[.slice none 0 0, .int .i64 0, .bool false, .int .i64 0, .slice none 0 0] 34 (0, 0)) := by rw [hW0]; exact heap_alloc_new w _
  have hsz0 : w.heap.size < W0.heap.size := (Array.getElem?_eq_some_iff.1 hz0).1
  have hde := dec_k (h.later hb0) (by omega)
  rw [(tkL d).2] at hde
  have HS : Hid (Sl w ao len cap d ∧ len ≤ 2000000 ∧ Sl w ka0 kl kc0 key) := ⟨h, hl, hk⟩
  have HZ : Hid (∀ wx, Below W0.heap.size W0 wx → wx.heap[w.heap.size]? = some (.cells #[.slice none 0 0, .int .i64 0, .bool false, .int .i64 0, .slice none 0 0] 34 (0, 0)) ∧ Below w.heap.size w wx) := fun wx hb => ⟨(hb.block _ hsz0).trans hz0, hb0.trans (hb.mono hb0.size)⟩
  have HW0 := hid hW0
  have HSZ := hid hsz0
  have HCU : Hid (∀ wx, Below W0.heap.size W0 wx → Calls Try.prog 80 #[.slice ao len cap] wx fun e w' => ∃ v u, e = .returned (.tuple #[v, u, .int .i64 (cutE d : Nat)]) ∧ (cutE d = 0 → Rests ao len cap d v (bodyN d) ∧ Rests ao len cap d u (plcN d)) ∧ Below wx.heap.size wx w') := fun wx hb => cut_k ((h.later hb0).later hb) (by omega)
  by_cases q0 : tkEL d = 0
  · have q1 := (tkL d).1.1 q0
    have hblk := tk_blk q1
    have hcut := cutE_of q0
    rw [q0] at hde
    rw [hcut] at HCU
    obtain ⟨l, hL⟩ : ∃ l, l = tkB d := ⟨_, rfl⟩
    rw [← hL] at hblk hde ⊢
    obtain ⟨g1, g2, g3, g4⟩ := blkE_ok hblk.1
    obtain ⟨e1, e2, e3⟩ := blk_parts g1 g2
    rw [hblk.2] at e2 e3
    rw [e2, e3] at HCU
    have HL : Hid (1 ≤ l.length ∧ l.length ≤ 400 ∧ (∀ e ∈ l, mayE e = true) ∧ ordE l) := ⟨g1, g2, g3, g4⟩
    clear h hl hk hs hb0 hz0 hsz0 hW0 q0 q1 hblk hcut hL g1 g2 g3 g4 e1 e2 e3
    go_enter Try.func77, Try.ntmps77
    go_upto_region 1 with fail
    rw [← HW0.out]
    go_upto_region 4 with (go_at_call 54; refine hde.mono ?_; rintro e w1 ⟨v1, rfl, rs1, b1⟩)
    have HOK : Hid (∀ e ∈ l, OkE e) := by obtain ⟨_, _, _, rs⟩ := rs1; exact rs.okE
    have hcu := HCU.out _ b1
    have HB1 := hid b1
    clear hde rs1 b1
    go_upto_region 5 with (go_at_call 80; refine hcu.mono ?_; rintro e w2 ⟨v2, u2, rfl, hr2, b2⟩)
    obtain ⟨s1, s2⟩ := hr2 (by first | exact trivial | rfl)
    have hb2 := HB1.out.trans (b2.mono HB1.out.size)
    have HB2 := hid hb2
    obtain ⟨a2, c2, hv2⟩ := s1.form HS.out.1
    obtain ⟨a3, c3, hu2⟩ := s2.form HS.out.1
    subst hv2 hu2
    have hzw := (HZ.out _ hb2).2
    have hrs := rst_k (s := s) ((s1 w HS.out.1).sl.later hzw) ((s2 w HS.out.1).sl.later hzw) (HS.out.2.2.later hzw) HL.out.1 HL.out.2.1 HL.out.2.2.1 HOK.out
    have HR1 := hid s1
    obtain ⟨BL, hBL⟩ : ∃ n, n = (enEs 0 [] l).length := ⟨_, rfl⟩
    have HBL : Hid (BL = (enEs 0 [] l).length ∧ BL ≤ 2000000) := ⟨hBL, by
      have a1 := enEs_tlen (List.all_eq_true.2 HL.out.2.2.1) l.length (Nat.le_refl _)
      rw [List.take_length, ← hBL] at a1
      have := HL.out
      omega⟩
    rw [← hBL] at hrs
    generalize (enTl 0 0 [] l).length = PL at hrs
    have hc2 : BL ≤ c2 := by
      have := (s1 w HS.out.1).sl.2.2.2.1
      omega
    rw [← hBL]
    clear s1 s2 hr2 hcu hzw hb2 b2 HB1 hBL HCU
    go_upto_region 5 with fail
    have HOF : Hid (∀ m, offK l m ≤ BL) := fun m => by rw [HBL.out.1]; exact off_le
    have hcf : ∀ m w, (Instr.slice 25 (.slice a2 BL c2) (some (.int .i64 (offK l m : Int))) none none).run Try.prog w = .ok (.slice (cutA a2 c2 (offK l m)) (BL - offK l m) (c2 - offK l m)) w := fun m w => run_from w a2 BL c2 (offK l m) (HOF.out m) hc2
    go_upto_region 6 with (go_at_call 99; refine hrs.mono ?_; rintro e w3 ⟨m, hm8, hma, rfl, b3⟩)
    have hrest : Rests ao len cap d (.slice (cutA a2 c2 (offK l m)) (BL - offK l m) (c2 - offK l m)) (enEs (8 * m) (lastK [] (l.take (8 * m))) (l.drop (8 * m))) := by
      have r1 : Rests a2 (enEs 0 [] l).length c2 (enEs 0 [] l) (.slice (cutA a2 c2 (offK l m)) ((enEs 0 [] l).length - offK l m) (c2 - offK l m)) ((enEs 0 [] l).drop (offK l m)) := Rests.from (offK l m) off_le rfl
      have r2 := HR1.out.trans r1
      rw [body_at (by omega), ← HBL.out.1] at r2
      exact r2
    obtain ⟨a5, c5, hr5⟩ := hrest.form HS.out.1
    rw [hr5] at hrest ⊢
    have hsk0 : skE l key s = skE (l.drop (8 * m)) key s := by
      rcases hma with z | ⟨h8, z⟩
      · subst z; simp
      · exact skE_from HL.out.2.2.2 h8 z
    have hb3 := HB2.out.trans (b3.mono HB2.out.size)
    obtain ⟨W4, hW4⟩ : ∃ W4, W4 = w3.alloc (.cells #[.slice none 0 0, .int .i64 0, .bool false, .int .i64 0, .slice none 0 0] 34) := ⟨_, rfl⟩
    obtain ⟨Q, hQ⟩ : ∃ Q, Q = w3.heap.size := ⟨_, rfl⟩
    have hK0 : SKs w Q W4 none 0 none 0 noE := by
      have hba := (Below.refl w3.heap.size w3).alloc (Nat.le_refl _) (.cells #[.slice none 0 0, .int .i64 0, .bool false, .int .i64 0, .slice none 0 0] 34)
      rw [← hW4] at hba
      obtain ⟨z1, z2⟩ := HZ.out _ (hb3.trans (hba.mono hb3.size))
      refine ⟨z1, by rw [hQ, hW4]; exact heap_alloc_new w3 _, Sg.nil _ _, Sg.nil _ _, in64_nil, in64_nil, z2, ?_⟩
      have := hb3.size
      have := HSZ.out
      omega
    have H0 : Hid (Rests ao len cap d (.slice a5 (enEs (8 * m) (lastK [] (l.take (8 * m))) (l.drop (8 * m))).length c5) (enEs (8 * m) (lastK [] (l.take (8 * m))) (l.drop (8 * m))) ∧ SKs w Q W4 none 0 none 0 noE ∧ 8 * m % 8 = 0 ∧ skE l key s = skE (l.drop (8 * m)) key s) := ⟨hrest, hK0, by omega, hsk0⟩
    have HW4 := hid hW4
    have HLE : Hid ((enEs (8 * m) (lastK [] (l.take (8 * m))) (l.drop (8 * m))).length ≤ 2000000) := by show _ ≤ _; rw [← body_at (by omega), List.length_drop, ← HBL.out.1]; have := HBL.out.2; omega
    clear hrest hr5 hsk0 hb3 hK0 hW4 hma hrs hcf b3 HBL hc2 HOF HR1 HB2
    go_wp2_with fail
    rw [← HW4.out, ← hQ]
    have HLM : Hid (8 * m < l.length) := hm8
    clear hQ hm8
    go_loopg [13] ((l.drop (8 * m)).length) (fun g r wr => ∃ (ra : Option Addr) (rc j : Nat) (p : List Int) (ka : Option Addr) (kc : Nat) (va : Option Addr) (vc : Nat) (o : EntV) (lr : List EntV), g = lr.length ∧ r = .slice ra (enEs j p lr).length rc ∧ Hid (Rests ao len cap d (.slice ra (enEs j p lr).length rc) (enEs j p lr) ∧ SKs w Q wr ka kc va vc o ∧ (j % 8 = 0 ∨ o.key = p) ∧ o.key.length ≤ 512 ∧ skE l key s = skE lr key s ∧ (∀ e ∈ lr, mayE e = true ∧ OkE e) ∧ (enEs j p lr).length ≤ 2000000))
    case atStart => exact ⟨a5, c5, 8 * m, lastK [] (l.take (8 * m)), none, 0, none, 0, noE, l.drop (8 * m), rfl, rfl, H0.out.1, H0.out.2.1, .inl H0.out.2.2.1, by simp [noE], H0.out.2.2.2, fun e he => ⟨HL.out.2.2.1 e (List.mem_of_mem_drop he), HOK.out e (List.mem_of_mem_drop he)⟩, HLE.out⟩
    case round =>
      obtain ⟨ra, rc, j, p, ka1, kc1, va1, vc1, o1, lr, hg, rfl, HK⟩ := hrel
      subst hg
      obtain ⟨RN, hRN⟩ : ∃ n, n = (enEs j p lr).length := ⟨_, rfl⟩
      rw [← hRN]
      have hR62 : RN ≤ 2 ^ 61 := by have := HK.out.2.2.2.2.2.2; omega
      by_cases hq : 0 < RN
      · have hq' : (0 : Int) < (RN : Int) := by omega
        obtain ⟨e, r, rfl⟩ : ∃ e r, lr = e :: r := by
          cases lr with
          | nil => rw [hRN] at hq; simp [enEs] at hq
          | cons e r => exact ⟨e, r, rfl⟩
        have hmo := HK.out.2.2.2.2.2.1 e (by simp)
        have hte0 := tE_next (o := o1.key) (p := p) (j := j) (e := e) (r := r) HK.out.2.2.1 HK.out.2.2.2.1 hmo.1 hmo.2 (fun x hx => (HK.out.2.2.2.2.2.1 x (by simp [hx])).2)
        have hte := tent_k ((HK.out.1 w HS.out.1).sl.later HK.out.2.1.bel) (by have := HK.out.2.2.2.2.2.2; omega) HK.out.2.1.sk.1 HK.out.2.2.2.1
        rw [← hRN] at hte
        unfold ToldK entA at hte
        rw [hte0] at hte
        simp only at hte
        have hlt := tE_less (key := o1.key) (d := enEs j p (e :: r)) HK.out.2.2.2.1 (by rw [hte0])
        rw [hte0] at hlt
        have HLT : Hid ((enEs (j + 1) e.key r).length ≤ 2000000 ∧ e.key.length ≤ 512 ∧ skE l key s = skE (e :: r) key s) := ⟨by have := HK.out.2.2.2.2.2.2; simp only at hlt; omega, (mayE_ok hmo.1).2.1, HK.out.2.2.2.2.1⟩
        have HKS := hid HK.out.2.1
        have HKR : Hid (Rests ao len cap d (.slice ra RN rc) (enEs j p (e :: r))) := by show Rests _ _ _ _ _ _; rw [hRN]; exact HK.out.1
        have HKM : Hid (∀ x ∈ r, mayE x = true ∧ OkE x) := fun x hx => HK.out.2.2.2.2.2.1 x (by simp [hx])
        obtain ⟨y0, y1, y2, y3, y4, f0, f1, f2, f3, f4⟩ := HKS.out.facts
        clear hte0 hlt hmo hRN hq HK H0 HLE
        go_upto_region 9 with (go_at_call 100; refine hte.mono ?_; rintro e9 w1 ⟨ka, kc, va, vc, rv, rfl, K1, K2, I1, I2, s1, b1⟩; clear y0 y1 y2 y3 y4 f0 f1 f2 f3 f4; obtain ⟨y0, y1, y2, y3, y4, f0, f1, f2, f3, f4⟩ := (HKS.out.later b1).facts)
        have A1 := HKS.out.next b1 K1 K2 I1 I2
        obtain ⟨W1, hW1⟩ : ∃ W1, W1 = lay5 Q w1 (.slice ka e.key.length kc) (.int .i64 e.seq) (.bool e.gone) (.int .i64 e.till) (.slice va e.val.length vc) := ⟨_, rfl⟩
        rw [← hW1] at A1
        unfold lay5 at hW1
        rw [← hW1]
        have hrr := HKR.out.trans s1
        obtain ⟨ra1, rc1, hrv⟩ := hrr.form HS.out.1
        subst hrv
        have HA1 := hid A1
        have HRR := hid hrr
        have hah := ahd_k (va := va) (vc := vc) (s := s) A1.sk.1 (HS.out.2.2.later A1.bel)
        unfold entA at hah
        clear hte K1 K2 I1 I2 s1 b1 A1 hW1 hrr y0 y1 y2 y3 y4 f0 f1 f2 f3 f4 HKR HKS
        obtain ⟨y0, y1, y2, y3, y4, f0, f1, f2, f3, f4⟩ := HA1.out.facts
        cases hA : ahK e key s with
        | true =>
          rw [hA] at hah
          have HSK : Hid (skE l key s = skE r key s) := by show _ = _; rw [HLT.out.2.2, skE_cons, if_pos hA]
          go_wp2_with (go_at_call 60; refine hah.mono ?_; rintro e9 w2 ⟨rfl, b2⟩)
          go_roundg (r.length)
          case measure => simp
          case rel => exact ⟨ra1, rc1, j + 1, e.key, ka, kc, va, vc, e, r, rfl, rfl, HRR.out, HA1.out.later b2, .inr rfl, HLT.out.2.1, HSK.out, HKM.out, HLT.out.1⟩
        | false =>
          rw [hA] at hah
          have HSK : Hid (skE l key s = some e) := by show _ = _; rw [HLT.out.2.2, skE_cons, if_neg (by rw [hA]; decide)]
          go_upto_region 10 with (go_at_call 60; refine hah.mono ?_; rintro e9 w2 ⟨rfl, b2⟩)
          have A2 := HA1.out.later b2
          obtain ⟨B0, HB0, HG⟩ : ∃ B0, Hid (w.heap.size ≤ B0) ∧ Hid (GotE B0 (some e) (.returned (.tuple #[.agg #[.slice ka e.key.length kc, .int .i64 e.seq, .bool e.gone, .int .i64 e.till, .slice va e.val.length vc], .bool true])) (lay5 w.heap.size w2 (.slice ka e.key.length kc) (.int .i64 e.seq) (.bool e.gone) (.int .i64 e.till) (.slice va e.val.length vc))) := ⟨w.heap.size, Nat.le_refl _, A2.got⟩
          clear y0 y1 y2 y3 y4 f0 f1 f2 f3 f4 hah
          obtain ⟨y0, y1, y2, y3, y4, f0, f1, f2, f3, f4⟩ := A2.facts
          obtain ⟨z0, z1, z2, z3, z4, h0, h1, h2, h3, h4⟩ := resK A2.bR
          obtain ⟨x0, x1, x2, x3, x4, ob⟩ := finK A2.bR A2.bel (.slice ka e.key.length kc) (.int .i64 e.seq) (.bool e.gone) (.int .i64 e.till) (.slice va e.val.length vc)
          have HOB := hid ob
          unfold lay5 at x0 x1 x2 x3 x4 HG HOB
          clear ob A2 b2
          go_wp2_with fail
          exact bodyPost_ret (v := .tuple #[.agg #[.slice ka e.key.length kc, .int .i64 e.seq, .bool e.gone, .int .i64 e.till, .slice va e.val.length vc], .bool true]) (by simp [results, Try.results77, go_sem, x0, x1, x2, x3, x4]) rfl ⟨⟨B0, HB0.out, by rw [HSK.out]; exact HG.out⟩, HOB.out⟩
      · have hq' : ¬ ((0 : Int) < (RN : Int)) := by omega
        have hlr : lr = [] := enEs_nil (by rw [← hRN]; omega)
        have HSK : Hid (skE l key s = none) := by show _ = _; rw [HK.out.2.2.2.2.1, hlr]; rfl
        obtain ⟨z0, z1, z2, z3, z4, h0, h1, h2, h3, h4⟩ := resK HK.out.2.1.bR
        obtain ⟨x0, x1, x2, x3, x4, ob⟩ := finK HK.out.2.1.bR HK.out.2.1.bel (.slice none 0 0) (.int .i64 0) (.bool false) (.int .i64 0) (.slice none 0 0)
        have HOB := hid ob
        unfold lay5 at x0 x1 x2 x3 x4 HOB
        clear ob HK hlr hq hRN H0 HLE
        go_wp2_with fail
        exact bodyPost_ret (v := .tuple #[.agg #[.slice none 0 0, .int .i64 0, .bool false, .int .i64 0, .slice none 0 0], .bool false]) (by simp [results, Try.results77, go_sem, x0, x1, x2, x3, x4]) rfl ⟨⟨w.heap.size, Nat.le_refl _, .inl ⟨HSK.out, rfl⟩⟩, HOB.out⟩
  · have q1 : tkE d ≠ 0 := fun z => q0 ((tkL d).1.2 z)
    have HSK : Hid (skE (tkB d) key s = none) := by show _ = _; unfold tkB; rw [if_neg q1]; rfl
    have hne : ((tkEL d : Int) != 0) = true := by simp; omega
    generalize tkEL d = E at hde hne
    clear h hl hk hs hb0 hz0 hsz0 hW0 q0 q1 HCU
    go_enter Try.func77, Try.ntmps77
    go_upto_region 1 with fail
    rw [← HW0.out]
    go_upto_region 3 with (go_at_call 54; refine hde.mono ?_; rintro e w1 ⟨v1, rfl, rs1, b1⟩)
    obtain ⟨zz1, zz2⟩ := HZ.out _ b1
    obtain ⟨z0, z1, z2, z3, z4, h0, h1, h2, h3, h4⟩ := resK zz1
    obtain ⟨x0, x1, x2, x3, x4, ob⟩ := finK zz1 zz2 (.slice none 0 0) (.int .i64 0) (.bool false) (.int .i64 0) (.slice none 0 0)
    have HOB := hid ob
    unfold lay5 at x0 x1 x2 x3 x4 HOB
    clear ob hde rs1 b1 zz1 zz2
    go_wp2_with fail
    exact bodyPost_ret (v := .tuple #[.agg #[.slice none 0 0, .int .i64 0, .bool false, .int .i64 0, .slice none 0 0], .bool false]) (by simp [results, Try.results77, go_sem, x0, x1, x2, x3, x4]) rfl ⟨⟨w.heap.size, Nat.le_refl _, .inl ⟨HSK.out, rfl⟩⟩, HOB.out⟩
theorem sek_k {w : World} {ao ka0 : Option Addr} {len cap kl kc0 : Nat} {d key : List Int} {s : Int} (h : Sl w ao len cap d) (hl : len ≤ 2000000) (hk : Sl w ka0 kl kc0 key) (hs : In64 s) :
    Calls Try.prog 77 #[.slice ao len cap, .slice ka0 kl kc0, .int .i64 s] w fun r w' => (∃ B, GotE B (skE (tkB d) key s) r w') ∧ Below w.heap.size w w' := (sekB_k h hl hk hs).mono fun r w' ⟨⟨B, _, h1⟩, h2⟩ => ⟨⟨B, h1⟩, h2⟩
theorem theBs : PBs where
  seek := fun h hl hk hs => sek_k h hl hk hs
end Go.Proofs.Ytfecopldepnicaa

/- The landed table: a table that there is not. -/
namespace Go.Proofs.Ytfecopldepnicaa
open Go.RowKit
set_option linter.unusedVariables false
set_option linter.unusedSimpArgs false

set_option maxHeartbeats 1000000 in
set_option maxRecDepth 100000 in
theorem seekN_t {w : World} {ka : Option Addr} {kl kc : Nat} {s : Int} : Calls Try.prog 51 #[.pointer none, .slice ka kl kc, .int .i64 s] w fun r w' => r = .returned (.tuple #[.agg #[.slice none 0 0, .int .i64 0, .bool false, .int .i64 0, .slice none 0 0], .bool false]) ∧ Below w.heap.size w w' := by
  obtain ⟨W, hW⟩ : ∃ W, w.alloc (.cells #[.slice none 0 0, .int .i64 0, .bool false, .int .i64 0, .slice none 0 0] 34) = W := ⟨_, rfl⟩
  have hb0 : W.heap[w.heap.size]? = some (.cells #[.slice none 0 0, .int .i64 0, .bool false, .int .i64 0, .slice none 0 0] 34 (0, 0)) := by rw [← hW]; exact heap_alloc_new w _
  have B0 : Below w.heap.size w W := by rw [← hW]; exact (Below.refl _ _).alloc (Nat.le_refl _) _
  have hf := fromN_t (w := W) (ka := ka) (kl := kl) (kc := kc) (s := s)
  have HB0 := hid B0
  have HH := hid hb0
  clear B0 hb0
  go_enter Try.func51, Try.ntmps51
  go_upto_region 2 with (go_at_call 53; refine hf.mono ?_; rintro e w1 ⟨rfl, b1⟩)
  have hb1 : w1.heap[w.heap.size]? = some (.cells #[.slice none 0 0, .int .i64 0, .bool false, .int .i64 0, .slice none 0 0] 34 (0, 0)) := (b1.block _ (Array.getElem?_eq_some_iff.1 HH.out).1).trans HH.out
  have B1 := HB0.out.trans (b1.mono HB0.out.size)
  obtain ⟨y0, y1, y2, y3, y4, f0, f1, f2, f3, f4⟩ := resK hb1
  obtain ⟨z0, z1, z2, z3, z4, hB⟩ := finK hb1 B1 (.slice none 0 0) (.int .i64 0) (.bool false) (.int .i64 0) (.slice none 0 0)
  have HBF := hid hB
  have HZ := hid (And.intro z0 (And.intro z1 (And.intro z2 (And.intro z3 z4))))
  unfold lay5 at HBF HZ
  clear z0 z1 z2 z3 z4 hB hf b1 B1 hb1
  go_wp2_with fail
  obtain ⟨z0, z1, z2, z3, z4⟩ := HZ.out
  exact bodyPost_ret (v := .tuple #[.agg #[.slice none 0 0, .int .i64 0, .bool false, .int .i64 0, .slice none 0 0], .bool false]) (by simp [results, Try.results51, go_sem, z0, z1, z2, z3, z4]) rfl ⟨rfl, HBF.out⟩
set_option maxRecDepth 100000 in
theorem leastN_t {w : World} : Calls Try.prog 17 #[.pointer none] w fun r w' => ∃ a c, r = .returned (.slice a 0 c) ∧ Below w.heap.size w w' := by
  have hs := seekN_t (w := w) (ka := none) (kl := 0) (kc := 0) (s := 9223372036854775807)
  go_enter Try.func17, Try.ntmps17
  go_wp2_with (go_at_call 51; refine hs.mono ?_; rintro e w1 ⟨rfl, b1⟩)
  exact bodyPost_ret (v := .slice none 0 0) (by simp [results, Try.results17, go_sem]) rfl ⟨none, 0, rfl, b1.alloc b1.size _⟩
set_option maxHeartbeats 1000000 in
set_option maxRecDepth 100000 in
theorem getN_t {w : World} {ka : Option Addr} {kl kc : Nat} {s : Int} : Calls Try.prog 13 #[.pointer none, .slice ka kl kc, .int .i64 s] w fun r w' => r = .returned (.tuple #[ent0, .bool false]) ∧ Below w.heap.size w w' := by
  obtain ⟨W, hW⟩ : ∃ W, w.alloc (.cells #[.slice none 0 0, .int .i64 0, .bool false, .int .i64 0, .slice none 0 0] 34) = W := ⟨_, rfl⟩
  have hb0 : W.heap[w.heap.size]? = some (.cells #[.slice none 0 0, .int .i64 0, .bool false, .int .i64 0, .slice none 0 0] 34 (0, 0)) := by rw [← hW]; exact heap_alloc_new w _
  have B0 : Below w.heap.size w W := by rw [← hW]; exact (Below.refl _ _).alloc (Nat.le_refl _) _
  have hs := seekN_t (w := W) (ka := ka) (kl := kl) (kc := kc) (s := s)
  have HB0 := hid B0
  have HH := hid hb0
  clear B0 hb0
  go_enter Try.func13, Try.ntmps13
  go_upto_region 2 with (go_at_call 51; refine hs.mono ?_; rintro e w1 ⟨rfl, b1⟩)
  obtain ⟨W2, hW2⟩ : ∃ W, w1.alloc (.cells #[.slice none 0 0, .int .i64 0, .bool false, .int .i64 0, .slice none 0 0] 34) = W := ⟨_, rfl⟩
  have b2 : Below w1.heap.size w1 W2 := by rw [← hW2]; exact (Below.refl _ _).alloc (Nat.le_refl _) _
  have b12 := b1.trans (b2.mono b1.size)
  have hb1 : W2.heap[w.heap.size]? = some (.cells #[.slice none 0 0, .int .i64 0, .bool false, .int .i64 0, .slice none 0 0] 34 (0, 0)) := (b12.block _ (Array.getElem?_eq_some_iff.1 HH.out).1).trans HH.out
  have B1 := HB0.out.trans (b12.mono HB0.out.size)
  obtain ⟨y0, y1, y2, y3, y4, f0, f1, f2, f3, f4⟩ := resK hb1
  obtain ⟨z0, z1, z2, z3, z4, hB⟩ := finK hb1 B1 (.slice none 0 0) (.int .i64 0) (.bool false) (.int .i64 0) (.slice none 0 0)
  have HBF := hid hB
  have HZ := hid (And.intro z0 (And.intro z1 (And.intro z2 (And.intro z3 z4))))
  unfold lay5 at HBF HZ
  rw [hW2]
  clear z0 z1 z2 z3 z4 hB hs b1 b2 b12 B1 hb1 hW2
  go_wp2_with fail
  obtain ⟨z0, z1, z2, z3, z4⟩ := HZ.out
  exact bodyPost_ret (v := .tuple #[.agg #[.slice none 0 0, .int .i64 0, .bool false, .int .i64 0, .slice none 0 0], .bool false]) (by simp [results, Try.results13, go_sem, z0, z1, z2, z3, z4]) rfl ⟨rfl, HBF.out⟩
set_option maxHeartbeats 1000000 in
set_option maxRecDepth 100000 in
theorem listN_t {w : World} {fa ta : Option Addr} {fl fc tl tc : Nat} : Calls Try.prog 21 #[.pointer none, .slice fa fl fc, .slice ta tl tc] w fun r w' => ∃ a c, r = .returned (.slice a 0 c) ∧ Below w.heap.size w w' := by
  have hf := fromN_t (w := w) (ka := fa) (kl := fl) (kc := fc) (s := 9223372036854775807)
  go_enter Try.func21, Try.ntmps21
  go_wp2_with (go_at_call 53; refine hf.mono ?_; rintro e w1 ⟨rfl, b1⟩)
  go_loopg [7, 9, 10, 11, 13, 18] 0 (fun g v _ _ _ _ i wr => i = .int .i64 0 ∧ v = .slice none 0 0 ∧ wr = w1)
  case atStart => exact ⟨rfl, rfl, rfl⟩
  case round =>
    obtain ⟨rfl, rfl, rfl⟩ := hrel
    go_wp2_with fail
    exact bodyPost_ret (v := .slice none 0 0) (by simp [results, Try.results21, go_sem]) rfl ⟨none, 0, rfl, b1⟩
set_option maxRecDepth 100000 in
theorem allN_t {w : World} : Calls Try.prog 26 #[.pointer none] w fun r w' => ∃ a c, r = .returned (.slice a 0 c) ∧ Below w.heap.size w w' := by
  have hf := listN_t (w := w) (fa := none) (fl := 0) (fc := 0) (ta := none) (tl := 0) (tc := 0)
  go_enter Try.func26, Try.ntmps26
  go_wp2_with (go_at_call 21; refine hf.mono ?_; rintro e w1 ⟨a1, c1, rfl, b1⟩)
  exact bodyPost_ret (v := .slice a1 0 c1) (by simp [results, Try.results26, go_sem]) rfl ⟨a1, c1, rfl, b1⟩
end Go.Proofs.Ytfecopldepnicaa

/- The landed table: that it is awake; a table that there is not. -/
namespace Go.Proofs.Ytfecopldepnicaa
open Go.RowKit
set_option linter.unusedVariables false
set_option linter.unusedSimpArgs false

/-- : what is asked of a program's tables at the least. -/
structure PTA where
  R : World → Nat → List EntV → Prop
  later : ∀ {w w' : World} {p : Nat} {l : List EntV}, R w p l → Below w.heap.size w w' → R w' p l
  build : ∀ {w : World} {ao : Option Addr} {len cap : Nat} {l : List EntV}, RS entE w ao len cap l → len ≤ 4010 → (∀ e ∈ l, e.key.length ≤ 3000 ∧ e.val.length ≤ 3000) → Calls Try.prog 9 #[.slice ao len cap] w fun e w' => ∃ v, e = .returned (.tuple #[v, .int .i64 ((tblE l : Nat) : Int)]) ∧ SlV w' v (tblX l) ∧ Below w.heap.size w w'
  opn : ∀ {w : World} {ao : Option Addr} {len cap : Nat} {b : List Int}, Sl w ao len cap b → len ≤ 5000000 → Calls Try.prog 12 #[.slice ao len cap] w fun e w' => ∃ (v : Value) (E : Nat), e = .returned (.tuple #[v, .int .i64 (E : Int)]) ∧ (E = 0 ↔ (opT tkD b).1 = 0) ∧ (E ≠ 0 → v = .pointer none) ∧ (E = 0 → ∃ p, v = pm p ∧ R w' p (opT tkD b).2) ∧ Below w.heap.size w w'
  len : ∀ {w : World} {p : Nat} {l : List EntV}, R w p l → Calls Try.prog 16 #[pm p] w fun r w' => r = .returned (.int .i64 (l.length : Nat)) ∧ Below w.heap.size w w'
  most : ∀ {w : World} {p : Nat} {l : List EntV}, R w p l → Calls Try.prog 18 #[pm p] w fun r w' => ∃ v, r = .returned v ∧ SlV w' v (lastK [] l) ∧ Below w.heap.size w w'
set_option maxHeartbeats 1000000 in
set_option maxRecDepth 100000 in
theorem awake12_a (D : PTA) (w : World) : Calls Try.prog 8 #[] w fun e w' => e = .returned (.bool true) ∧ Below w.heap.size w w' := by
  have hcv2 : ∀ (w : World) X, (convert 25 25 (.slice (some ⟨w.heap.size + 1, 0, none⟩) 1 1)).run Try.prog ((w.alloc X).alloc (.cells #[.int .u8 120] 5)) = .ok (.slice (some ⟨w.heap.size + 1, 0, none⟩) 1 1) ((w.alloc X).alloc (.cells #[.int .u8 120] 5 (1, 2))) := fun w X => by
    have := Lib.run_convert_bytes_const (P := Try.prog) (w.alloc X) 25 5 #[.int .u8 120] 1 1 Try.underlying25 Try.underlying5
    simpa using this
  have hcv := fun (w : World) a l c => Lib.run_convert_bytes_const (P := Try.prog) w 25 5 a l c Try.underlying25 Try.underlying5
  obtain ⟨W3, hW3⟩ : ∃ W, W = (w.alloc (.cells #[.int .u8 97] 5 (1, 2))).alloc (.cells #[.int .u8 120] 5 (1, 2)) := ⟨_, rfl⟩
  have b2 : Below w.heap.size w W3 := by rw [hW3]; exact ((Below.refl _ w).alloc (Nat.le_refl _) _).alloc (by simp) _
  have s1 : Sl W3 (some ⟨w.heap.size, 0, none⟩) 1 1 [97] := by rw [hW3]; exact (sl_byte w 97 (by decide)).later ((Below.refl _ _).alloc (Nat.le_refl _) _)
  have s2 : Sl W3 (some ⟨w.heap.size + 1, 0, none⟩) 1 1 [120] := by
    have := sl_byte (w.alloc (.cells #[.int .u8 97] 5 (1, 2))) 120 (by decide)
    rw [hW3]
    simpa using this
  have hM : entE.M W3 [.slice (some ⟨w.heap.size, 0, none⟩) 1 1, .int .i64 1, .bool false, .int .i64 0, .slice (some ⟨w.heap.size + 1, 0, none⟩) 1 1] eT := ⟨_, 1, _, 1, rfl, s1, s2, ⟨by decide, by decide⟩, ⟨by decide, by decide⟩⟩
  have hone := rs_one hM
  obtain ⟨L, hL⟩ : ∃ L, L = [eT] := ⟨_, rfl⟩
  rw [← hL] at hone
  have t1 : tblE L = 0 := by rw [hL]; exact tbl_t
  have t2 : ∀ e ∈ L, OkE e := by rw [hL]; exact ok_t
  have t3 : ∀ e ∈ L, e.key.length ≤ 3000 ∧ e.val.length ≤ 3000 := by rw [hL]; exact fun e he => by rw [List.mem_singleton.1 he]; exact ⟨by decide, by decide⟩
  have t4 : L.length = 1 := by rw [hL]; rfl
  have t5 : lastK [] L = [97] := by rw [hL]; rfl
  clear hL
  have hp := D.build ⟨_, hone⟩ (by decide) t3
  have hX : tblX L = tblB L := by unfold tblX; rw [if_pos t1]
  rw [t1, hX] at hp
  have hsz : W3.heap.size = w.heap.size + 2 := by rw [hW3]; simp
  have HB : Hid (Below w.heap.size w (W3.alloc (.cells #[.slice (some ⟨w.heap.size, 0, none⟩) 1 1, .int .i64 1, .bool false, .int .i64 0, .slice (some ⟨w.heap.size + 1, 0, none⟩) 1 1] 34))) := b2.alloc b2.size _
  have ho := opT_of_tbl t1 t2
  have hbl := (tblE_ok t1).2.2.2.2
  obtain ⟨X, hXX⟩ : ∃ X, X = tblB L := ⟨_, rfl⟩
  rw [← hXX] at hp ho hbl
  obtain ⟨N, hN⟩ : ∃ n, n = X.length := ⟨_, rfl⟩
  have HN : Hid (N = X.length ∧ N ≤ 4194304) := ⟨hN, by rw [hN]; exact hbl⟩
  have HOP : Hid (∀ {wx : World} {a : Option Addr} {c : Nat}, Sl wx a N c X → Calls Try.prog 12 #[.slice a N c] wx fun e w' => ∃ p, e = .returned (.tuple #[.pointer (some ⟨p, 0, none⟩), .int .i64 0]) ∧ D.R w' p L ∧ Below wx.heap.size wx w') := fun {wx a c} hs => (D.opn hs (by have := HN.out.2; omega)).mono fun e w' ⟨v, E, he, h1, h2, h3, h4⟩ => by
    rw [ho] at h1 h3
    have hE := h1.2 rfl
    obtain ⟨p, hv, hR⟩ := h3 hE
    exact ⟨p, by rw [he, hE, hv]; rfl, hR, h4⟩
  have HT : Hid (L.length = 1 ∧ lastK [] L = [97]) := ⟨t4, t5⟩
  clear t1 t2 t3 t4 t5 ho hbl hXX
  rw [hsz] at hp
  rw [hW3] at hp HB
  clear hM hone b2 s1 s2 hsz hW3 hX hN
  go_enter Try.func8, Try.ntmps8
  go_upto_region 2 with (go_at_call 9; refine hp.mono ?_; rintro e w1 ⟨v1, rfl, ⟨a1, c1, hv1, s1⟩, b1⟩; rw [← HN.out.1] at hv1 s1; subst hv1)
  have ho := HOP.out s1
  have HB1 := hid (HB.out.trans (b1.mono HB.out.size))
  clear hp s1 b1 hcv hcv2 HB
  go_upto_region 3 with (go_at_call 12; refine ho.mono ?_; rintro e w2 ⟨p, rfl, hR, b2⟩)
  have HB2 := hid (HB1.out.trans (b2.mono HB1.out.size))
  have hl := D.len hR
  rw [HT.out.1] at hl
  have HMO : Hid (∀ wx, Below w2.heap.size w2 wx → Calls Try.prog 18 #[.pointer (some ⟨p, 0, none⟩)] wx fun r w' => ∃ a c, r = .returned (.slice a 1 c) ∧ Sl w' a 1 c [97] ∧ Below wx.heap.size wx w') := fun wx hb => (D.most (D.later hR hb)).mono fun e w' ⟨v, he, ⟨a, c, hv, hs⟩, hb'⟩ => by
    rw [HT.out.2] at hv hs
    exact ⟨a, c, by rw [he, hv]; rfl, hs, hb'⟩
  unfold pm at hl
  clear ho hR b2
  go_wp2_with (first | (go_at_call 16; refine hl.mono ?_; rintro e w3 ⟨rfl, b3⟩) | (go_at_call 18; refine (HMO.out _ b3).mono ?_; rintro e w4 ⟨a4, c4, rfl, s4, b4⟩; have hst := str_l s4; rw [show strOfNums [97] = ⟨#[97]⟩ from rfl] at hst))
  exact bodyPost_ret (v := .bool true) (by simp [results, Try.results8, go_sem]) rfl ⟨rfl, (HB2.out.trans (b3.mono HB2.out.size)).trans (b4.mono (Nat.le_trans HB2.out.size b3.size))⟩

set_option maxHeartbeats 1000000 in
set_option maxRecDepth 100000 in
theorem nil12_a (D : PTA) (N : PTN) {w : World} {ka : Option Addr} {kl kc : Nat} {key : List Int} {s : Int} (hk : Sl w ka kl kc key) (hs : In64 s) :
    Calls Try.prog 5 #[.slice ka kl kc, .int .i64 s] w fun e w' => e = .returned (.bool true) ∧ Below w.heap.size w w' := by
  have hg := N.get hk hs
  have HAW : Hid (∀ wx, Calls Try.prog 8 #[] wx fun e w' => e = .returned (.bool true) ∧ Below wx.heap.size wx w') := fun wx => awake12_a D wx
  have HL : Hid (∀ wx : World, Calls Try.prog 16 #[.pointer none] wx fun r w' => r = .returned (.int .i64 0) ∧ Below wx.heap.size wx w') := fun wx => N.len
  have HLE : Hid (∀ wx : World, Calls Try.prog 17 #[.pointer none] wx fun r w' => ∃ a c, r = .returned (.slice a 0 c) ∧ Below wx.heap.size wx w') := fun wx => N.least
  have HMO : Hid (∀ wx : World, Calls Try.prog 18 #[.pointer none] wx fun r w' => ∃ a c, r = .returned (.slice a 0 c) ∧ Below wx.heap.size wx w') := fun wx => N.most
  have HMA : Hid (∀ wx : World, Below w.heap.size w wx → Calls Try.prog 23 #[.pointer none, .slice ka kl kc] wx fun r w' => r = .returned (.bool false) ∧ Below wx.heap.size wx w') := fun wx hb => N.may (hk.later hb)
  have HAL : Hid (∀ wx : World, Calls Try.prog 26 #[.pointer none] wx fun r w' => ∃ a c, r = .returned (.slice a 0 c) ∧ Below wx.heap.size wx w') := fun wx => N.all
  have HLI : Hid (∀ wx : World, Below w.heap.size w wx → Calls Try.prog 21 #[.pointer none, .slice ka kl kc, .slice none 0 0] wx fun r w' => ∃ a c, r = .returned (.slice a 0 c) ∧ Below wx.heap.size wx w') := fun wx hb => N.list (hk.later hb) (Sl.nil _)
  unfold ent0 at hg
  clear hk hs
  go_enter Try.func5, Try.ntmps5
  go_upto_region 3 with (go_at_call 13; refine hg.mono ?_; rintro e w1 ⟨rfl, b1⟩)
  have B1 : Below w.heap.size w (w1.alloc (.cells #[.slice none 0 0, .int .i64 0, .bool false, .int .i64 0, .slice none 0 0] 34)) := b1.alloc b1.size _
  clear hg
  go_wp2_with (first | (go_at_call 16; refine (HL.out _).mono ?_; rintro e w2 ⟨rfl, b2⟩; have B2 := B1.trans (b2.mono B1.size)) | (go_at_call 17; refine (HLE.out _).mono ?_; rintro e w3 ⟨a3, c3, rfl, b3⟩; have B3 := B2.trans (b3.mono B2.size)) | (go_at_call 18; refine (HMO.out _).mono ?_; rintro e w4 ⟨a4, c4, rfl, b4⟩; have B4 := B3.trans (b4.mono B3.size)) | (go_at_call 23; refine (HMA.out _ B4).mono ?_; rintro e w5 ⟨rfl, b5⟩; have B5 := B4.trans (b5.mono B4.size)) | (go_at_call 26; refine (HAL.out _).mono ?_; rintro e w6 ⟨a6, c6, rfl, b6⟩; have B6 := B5.trans (b6.mono B5.size)) | (go_at_call 21; refine (HLI.out _ B6).mono ?_; rintro e w7 ⟨a7, c7, rfl, b7⟩; have B7 := B6.trans (b7.mono B6.size)) | (go_at_call 8; refine (HAW.out _).mono ?_; rintro e w8 ⟨rfl, b8⟩))
  exact bodyPost_ret (v := .bool true) (by simp [results, Try.results5, go_sem]) rfl ⟨rfl, B7.trans (b8.mono B7.size)⟩

theorem opnT {w : World} {ao : Option Addr} {len cap : Nat} {b : List Int} (h : Sl w ao len cap b) (hl : len ≤ 5000000) : Calls Try.prog 12 #[.slice ao len cap] w fun e w' => ∃ (v : Value) (E : Nat), e = .returned (.tuple #[v, .int .i64 (E : Int)]) ∧ (E = 0 ↔ (opT tkD b).1 = 0) ∧ (E ≠ 0 → v = .pointer none) ∧ (E = 0 → ∃ p, v = pm p ∧ RTb w' p (opT tkD b).2) ∧ Below w.heap.size w w' := (open_t h hl).mono fun e w' ⟨⟨v, E, h1, h2, h3, h4⟩, h5⟩ => ⟨v, E, h1, h2, h3, h4, h5⟩
/-- -/
def theTa : PTA where
  R := RTb
  later := fun h hb => h.later hb
  build := fun {w ao len cap l} h hl _ => build_t h (by omega)
  opn := fun h hl => opnT h hl
  len := fun h => lenA_t h
  most := fun h => most_t h
/-- -/
theorem theTn : PTN where
  len := lenN_t
  least := leastN_t
  most := mostN_t
  get := fun _ _ => getN_t
  may := fun _ => mayN2_t
  list := fun _ _ => listN_t
  all := allN_t
end Go.Proofs.Ytfecopldepnicaa
