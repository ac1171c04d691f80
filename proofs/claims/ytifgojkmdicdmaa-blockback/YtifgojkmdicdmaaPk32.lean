import Derived.Laws.OwnMore
import Derived.Deep.OwnRows
import Derived.Deep.RegionHeldLaw
import Derived.Test.YtifgojkmdicdmaaPk22
import Derived.Test.YtifgojkmdicdmaaPk26
import Derived.Test.YtifgojkmdicdmaaPk30
import Derived.Test.YtifgojkmdicdmaaPk31
/- The landed block keeps what is asked of Decode. -/
namespace Go.Proofs.Ytifgojkmdicdmaa
open Go.RowKit
set_option linter.unusedVariables false
set_option linter.unusedSimpArgs false

theorem theBd : PBd where
  decode := fun {w ao len cap d} h hl => (dec_k h hl).mono fun e w' ⟨v, he, hr, hb⟩ => ⟨v, tkEL d, he, (tkL d).1, by rw [← (tkL d).2]; exact hr, hb⟩
end Go.Proofs.Ytifgojkmdicdmaa

/- The landed block: Seek. -/
namespace Go.Proofs.Ytifgojkmdicdmaa
open Go.RowKit
set_option linter.unusedVariables false
set_option linter.unusedSimpArgs false

/-- Where the walk stands: the answer's place, the entry ahead. -/
structure SKs (w : World) (q : Nat) (wx : World) (ka : Option Addr) (kc : Nat) (va : Option Addr) (vc : Nat) (o : EntV) : Prop where
  bR : wx.heap[w.heap.size]? = some (.cells #[.slice none 0 0, .int .i64 0, .bool false, .int .i64 0, .slice none 0 0] 35 (0, 0))
  bo : wx.heap[q]? = some (.cells #[.slice ka o.key.length kc, .int .i64 o.seq, .bool o.gone, .int .i64 o.till, .slice va o.val.length vc] 35 (0, 0))
  sk : Sg (fun b => q + 1 ≤ b) wx ka kc o.key
  sv : Sg (fun b => q + 1 ≤ b) wx va vc o.val
  i1 : In64 o.seq
  i2 : In64 o.till
  bel : Below w.heap.size w wx
  hq : w.heap.size < q
theorem SKs.later {w : World} {q : Nat} {wx : World} {ka : Option Addr} {kc : Nat} {va : Option Addr} {vc : Nat} {o : EntV} {wy : World} (h : SKs w q wx ka kc va vc o) (hb : Below wx.heap.size wx wy) : SKs w q wy ka kc va vc o :=
  ⟨(hb.block _ (Array.getElem?_eq_some_iff.1 h.bR).1).trans h.bR, (hb.block _ (Array.getElem?_eq_some_iff.1 h.bo).1).trans h.bo, h.sk.later hb, h.sv.later hb, h.i1, h.i2, h.bel.trans (hb.mono h.bel.size), h.hq⟩
theorem SKs.facts {w : World} {q : Nat} {wx : World} {ka : Option Addr} {kc : Nat} {va : Option Addr} {vc : Nat} {o : EntV} (h : SKs w q wx ka kc va vc o) :
    wx.cell? ⟨q, 0, none⟩ = some (.slice ka o.key.length kc) ∧ wx.cell? ⟨q, 1, none⟩ = some (.int .i64 o.seq) ∧ wx.cell? ⟨q, 2, none⟩ = some (.bool o.gone) ∧ wx.cell? ⟨q, 3, none⟩ = some (.int .i64 o.till) ∧ wx.cell? ⟨q, 4, none⟩ = some (.slice va o.val.length vc) ∧
    wx.frozen? ⟨q, 0, none⟩ = false ∧ wx.frozen? ⟨q, 1, none⟩ = false ∧ wx.frozen? ⟨q, 2, none⟩ = false ∧ wx.frozen? ⟨q, 3, none⟩ = false ∧ wx.frozen? ⟨q, 4, none⟩ = false :=
  ⟨by rw [cell_of h.bo]; rfl, by rw [cell_of h.bo]; rfl, by rw [cell_of h.bo]; rfl, by rw [cell_of h.bo]; rfl, by rw [cell_of h.bo]; rfl, frozen_of h.bo 0, frozen_of h.bo 1, frozen_of h.bo 2, frozen_of h.bo 3, frozen_of h.bo 4⟩
/-- The answer's place, before it is laid. -/
theorem resK {wx : World} {p : Nat} (h : wx.heap[p]? = some (.cells #[.slice none 0 0, .int .i64 0, .bool false, .int .i64 0, .slice none 0 0] 35 (0, 0))) :
    wx.cell? ⟨p, 0, none⟩ = some (.slice none 0 0) ∧ wx.cell? ⟨p, 1, none⟩ = some (.int .i64 0) ∧ wx.cell? ⟨p, 2, none⟩ = some (.bool false) ∧ wx.cell? ⟨p, 3, none⟩ = some (.int .i64 0) ∧ wx.cell? ⟨p, 4, none⟩ = some (.slice none 0 0) ∧
    wx.frozen? ⟨p, 0, none⟩ = false ∧ wx.frozen? ⟨p, 1, none⟩ = false ∧ wx.frozen? ⟨p, 2, none⟩ = false ∧ wx.frozen? ⟨p, 3, none⟩ = false ∧ wx.frozen? ⟨p, 4, none⟩ = false :=
  ⟨by rw [cell_of h]; rfl, by rw [cell_of h]; rfl, by rw [cell_of h]; rfl, by rw [cell_of h]; rfl, by rw [cell_of h]; rfl, frozen_of h 0, frozen_of h 1, frozen_of h 2, frozen_of h 3, frozen_of h 4⟩
/-- The answer is laid. -/
theorem finK {w wx : World} (h : wx.heap[w.heap.size]? = some (.cells #[.slice none 0 0, .int .i64 0, .bool false, .int .i64 0, .slice none 0 0] 35 (0, 0))) (bel : Below w.heap.size w wx) (x0 x1 x2 x3 x4 : Value) :
    (lay5 w.heap.size wx x0 x1 x2 x3 x4).cell? ⟨w.heap.size, 0, none⟩ = some x0 ∧ (lay5 w.heap.size wx x0 x1 x2 x3 x4).cell? ⟨w.heap.size, 1, none⟩ = some x1 ∧ (lay5 w.heap.size wx x0 x1 x2 x3 x4).cell? ⟨w.heap.size, 2, none⟩ = some x2 ∧ (lay5 w.heap.size wx x0 x1 x2 x3 x4).cell? ⟨w.heap.size, 3, none⟩ = some x3 ∧ (lay5 w.heap.size wx x0 x1 x2 x3 x4).cell? ⟨w.heap.size, 4, none⟩ = some x4 ∧ Below w.heap.size w (lay5 w.heap.size wx x0 x1 x2 x3 x4) := by
  have hb := lay5_block h x0 x1 x2 x3 x4
  refine ⟨?_, ?_, ?_, ?_, ?_, Below.grown bel (lay5_grown _ wx x0 x1 x2 x3 x4) bel.size fun k e => ?_⟩
  · rw [cell_of hb]; rfl
  · rw [cell_of hb]; rfl
  · rw [cell_of hb]; rfl
  · rw [cell_of hb]; rfl
  · rw [cell_of hb]; rfl
  · simp only [Option.some.injEq] at e
    omega
/-- The next entry is laid in its place. -/
theorem SKs.next {w : World} {q : Nat} {wx wy : World} {ka0 : Option Addr} {kc0 : Nat} {va0 : Option Addr} {vc0 : Nat} {o0 : EntV} (h : SKs w q wx ka0 kc0 va0 vc0 o0) (hb : Below wx.heap.size wx wy) {ka : Option Addr} {kc : Nat} {va : Option Addr} {vc : Nat} {o : EntV}
    (hk : Sg (fun b => wx.heap.size ≤ b) wy ka kc o.key) (hv : Sg (fun b => wx.heap.size ≤ b) wy va vc o.val) (h1 : In64 o.seq) (h2 : In64 o.till) : SKs w q (lay5 q wy (.slice ka o.key.length kc) (.int .i64 o.seq) (.bool o.gone) (.int .i64 o.till) (.slice va o.val.length vc)) ka kc va vc o := by
  have hg := lay5_grown q wy (.slice ka o.key.length kc) (.int .i64 o.seq) (.bool o.gone) (.int .i64 o.till) (.slice va o.val.length vc)
  have H := h.later hb
  have hql := (Array.getElem?_eq_some_iff.1 h.bo).1
  have hwq := h.hq
  refine ⟨?_, lay5_block H.bo _ _ _ _ _, (hk.grown hg fun b hb e => ?_).weak fun b _ hb => by omega, (hv.grown hg fun b hb e => ?_).weak fun b _ hb => by omega, h1, h2, Below.grown H.bel hg H.bel.size fun k e => ?_, hwq⟩
  · rw [hg.block _ (Array.getElem?_eq_some_iff.1 H.bR).1 (fun e => by simp only [Option.some.injEq] at e; omega)]
    exact H.bR
  · simp only [Option.some.injEq] at e; omega
  · simp only [Option.some.injEq] at e; omega
  · simp only [Option.some.injEq] at e; omega
theorem SKs.got {w : World} {q : Nat} {wx : World} {ka : Option Addr} {kc : Nat} {va : Option Addr} {vc : Nat} {o : EntV} (h : SKs w q wx ka kc va vc o) : GotE 0 (some o) (.returned (.tuple #[.agg #[.slice ka o.key.length kc, .int .i64 o.seq, .bool o.gone, .int .i64 o.till, .slice va o.val.length vc], .bool true])) (lay5 w.heap.size wx (.slice ka o.key.length kc) (.int .i64 o.seq) (.bool o.gone) (.int .i64 o.till) (.slice va o.val.length vc)) := by
  have hg := lay5_grown w.heap.size wx (.slice ka o.key.length kc) (.int .i64 o.seq) (.bool o.gone) (.int .i64 o.till) (.slice va o.val.length vc)
  have hwq := h.hq
  have k1 := h.sk.grown hg fun b hb e => by simp only [Option.some.injEq] at e; omega
  have k2 := h.sv.grown hg fun b hb e => by simp only [Option.some.injEq] at e; omega
  exact .inr ⟨o, ka, kc, va, vc, rfl, rfl, ⟨ka, kc, va, vc, rfl, k1.1, k2.1, h.i1, h.i2⟩, fun u hu b hr => Nat.zero_le _⟩
theorem skE_nil (key : List Int) (s : Int) : skE [] key s = none := rfl
theorem skE_cons {e : EntV} {r : List EntV} {key : List Int} {s : Int} : skE (e :: r) key s = if ahK e key s = true then skE r key s else some e := by
  rw [skE_ahK, skE_ahK, List.find?_cons]
  cases ahK e key s <;> rfl
theorem enEs_nil {j : Nat} {p : List Int} {l : List EntV} (h : (enEs j p l).length = 0) : l = [] := by
  cases l with
  | nil => rfl
  | cons e r =>
    have := enE_pos (shI j e.key p) e
    unfold enEs at h
    rw [List.length_append] at h
    omega
/-- Where Decode takes, cut does. -/
theorem cutE_of {d : List Int} (h : tkEL d = 0) : cutE d = 0 := by
  unfold tkEL at h
  unfold cutE
  split at h
  · cases h
  · rename_i z
    rw [if_neg z]
    split at h
    · cases h
    · rename_i z2
      rw [if_neg z2]

set_option maxHeartbeats 4000000 in
set_option maxRecDepth 100000 in
theorem sek_k {w : World} {ao ka0 : Option Addr} {len cap kl kc0 : Nat} {d key : List Int} {s : Int} (h : Sl w ao len cap d) (hl : len ≤ 2000000) (hk : Sl w ka0 kl kc0 key) (hs : In64 s) :
    Calls Try.prog 18 #[.slice ao len cap, .slice ka0 kl kc0, .int .i64 s] w fun r w' => (∃ B, GotE B (skE (tkB d) key s) r w') ∧ Below w.heap.size w w' := by
  obtain ⟨W0, hW0⟩ : ∃ W0, W0 = w.alloc (.cells #[.slice none 0 0, .int .i64 0, .bool false, .int .i64 0, .slice none 0 0] 35) := ⟨_, rfl⟩
  have hb0 : Below w.heap.size w W0 := by rw [hW0]; exact (Below.refl _ _).alloc (Nat.le_refl _) _
  have hz0 : W0.heap[w.heap.size]? = some (.cells #[.slice none 0 0, .int .i64 0, .bool false, .int .i64 0, .slice none 0 0] 35 (0, 0)) := by rw [hW0]; exact heap_alloc_new w _
  have hsz0 : w.heap.size < W0.heap.size := (Array.getElem?_eq_some_iff.1 hz0).1
  have hde := dec_k (h.later hb0) hl
  rw [(tkL d).2] at hde
  have HS : Hid (Sl w ao len cap d ∧ len ≤ 2000000 ∧ Sl w ka0 kl kc0 key) := ⟨h, hl, hk⟩
  have HZ : Hid (∀ wx, Below W0.heap.size W0 wx → wx.heap[w.heap.size]? = some (.cells #[.slice none 0 0, .int .i64 0, .bool false, .int .i64 0, .slice none 0 0] 35 (0, 0)) ∧ Below w.heap.size w wx) := fun wx hb => ⟨(hb.block _ hsz0).trans hz0, hb0.trans (hb.mono hb0.size)⟩
  have HW0 := hid hW0
  have HSZ := hid hsz0
  have HCU : Hid (∀ wx, Below W0.heap.size W0 wx → Calls Try.prog 32 #[.slice ao len cap] wx fun e w' => ∃ v u, e = .returned (.tuple #[v, u, .int .i64 (cutE d : Nat)]) ∧ (cutE d = 0 → Rests ao len cap d v (bodyN d) ∧ Rests ao len cap d u (plcN d)) ∧ Below wx.heap.size wx w') := fun wx hb => cut_k ((h.later hb0).later hb) hl
  by_cases q0 : tkEL d = 0
  · have q1 := (tkL d).1.1 q0
    have hblk := tk_blk q1
    have hcut := cutE_of q0
    rw [q0] at hde
    rw [hcut] at HCU
    obtain ⟨l, hL⟩ : ∃ l, l = tkB d := ⟨_, rfl⟩
    rw [← hL] at hblk hde ⊢
    obtain ⟨g1, g2, g3, g4⟩ := blkE_ok hblk.1
    obtain ⟨e1, e2, e3⟩ := blk_parts g1 g2
    rw [hblk.2] at e2 e3
    rw [e2, e3] at HCU
    have HL : Hid (1 ≤ l.length ∧ l.length ≤ 400 ∧ (∀ e ∈ l, mayE e = true) ∧ ordE l) := ⟨g1, g2, g3, g4⟩
    clear h hl hk hs hb0 hz0 hsz0 hW0 q0 q1 hblk hcut hL g1 g2 g3 g4 e1 e2 e3
    go_enter Try.func18, Try.ntmps18
    go_upto_region 1 with fail
    rw [← HW0.out]
    go_upto_region 4 with (go_at_call 14; refine hde.mono ?_; rintro e w1 ⟨v1, rfl, rs1, b1⟩)
    have HOK : Hid (∀ e ∈ l, OkE e) := by obtain ⟨_, _, _, rs⟩ := rs1; exact rs.okE
    have hcu := HCU.out _ b1
    have HB1 := hid b1
    clear hde rs1 b1
    go_upto_region 5 with (go_at_call 32; refine hcu.mono ?_; rintro e w2 ⟨v2, u2, rfl, hr2, b2⟩)
    obtain ⟨s1, s2⟩ := hr2 (by first | exact trivial | rfl)
    have hb2 := HB1.out.trans (b2.mono HB1.out.size)
    have HB2 := hid hb2
    obtain ⟨a2, c2, hv2⟩ := s1.form HS.out.1
    obtain ⟨a3, c3, hu2⟩ := s2.form HS.out.1
    subst hv2 hu2
    have hzw := (HZ.out _ hb2).2
    have hrs := rst_k (s := s) ((s1 w HS.out.1).sl.later hzw) ((s2 w HS.out.1).sl.later hzw) (HS.out.2.2.later hzw) HL.out.1 HL.out.2.1 HL.out.2.2.1 HOK.out
    have HR1 := hid s1
    obtain ⟨BL, hBL⟩ : ∃ n, n = (enEs 0 [] l).length := ⟨_, rfl⟩
    have HBL : Hid (BL = (enEs 0 [] l).length ∧ BL ≤ 2000000) := ⟨hBL, by
      have a1 := enEs_tlen (List.all_eq_true.2 HL.out.2.2.1) l.length (Nat.le_refl _)
      rw [List.take_length, ← hBL] at a1
      have := HL.out
      omega⟩
    rw [← hBL] at hrs
    generalize (enTl 0 0 [] l).length = PL at hrs
    have hc2 : BL ≤ c2 := by
      have := (s1 w HS.out.1).sl.2.2.2.1
      omega
    rw [← hBL]
    clear s1 s2 hr2 hcu hzw hb2 b2 HB1 hBL HCU
    go_upto_region 5 with fail
    have HOF : Hid (∀ m, offK l m ≤ BL) := fun m => by rw [HBL.out.1]; exact off_le
    have hcf : ∀ m w, (Instr.slice 25 (.slice a2 BL c2) (some (.int .i64 (offK l m : Int))) none none).run Try.prog w = .ok (.slice (cutA a2 c2 (offK l m)) (BL - offK l m) (c2 - offK l m)) w := fun m w => run_from w a2 BL c2 (offK l m) (HOF.out m) hc2
    go_upto_region 6 with (go_at_call 40; refine hrs.mono ?_; rintro e w3 ⟨m, hm8, hma, rfl, b3⟩)
    have hrest : Rests ao len cap d (.slice (cutA a2 c2 (offK l m)) (BL - offK l m) (c2 - offK l m)) (enEs (8 * m) (lastK [] (l.take (8 * m))) (l.drop (8 * m))) := by
      have r1 : Rests a2 (enEs 0 [] l).length c2 (enEs 0 [] l) (.slice (cutA a2 c2 (offK l m)) ((enEs 0 [] l).length - offK l m) (c2 - offK l m)) ((enEs 0 [] l).drop (offK l m)) := Rests.from (offK l m) off_le rfl
      have r2 := HR1.out.trans r1
      rw [body_at (by omega), ← HBL.out.1] at r2
      exact r2
    obtain ⟨a5, c5, hr5⟩ := hrest.form HS.out.1
    rw [hr5] at hrest ⊢
    have hsk0 : skE l key s = skE (l.drop (8 * m)) key s := by
      rcases hma with z | ⟨h8, z⟩
      · subst z; simp
      · exact skE_from HL.out.2.2.2 h8 z
    have hb3 := HB2.out.trans (b3.mono HB2.out.size)
    obtain ⟨W4, hW4⟩ : ∃ W4, W4 = w3.alloc (.cells #[.slice none 0 0, .int .i64 0, .bool false, .int .i64 0, .slice none 0 0] 35) := ⟨_, rfl⟩
    obtain ⟨Q, hQ⟩ : ∃ Q, Q = w3.heap.size := ⟨_, rfl⟩
    have hK0 : SKs w Q W4 none 0 none 0 noE := by
      have hba := (Below.refl w3.heap.size w3).alloc (Nat.le_refl _) (.cells #[.slice none 0 0, .int .i64 0, .bool false, .int .i64 0, .slice none 0 0] 35)
      rw [← hW4] at hba
      obtain ⟨z1, z2⟩ := HZ.out _ (hb3.trans (hba.mono hb3.size))
      refine ⟨z1, by rw [hQ, hW4]; exact heap_alloc_new w3 _, Sg.nil _ _, Sg.nil _ _, in64_nil, in64_nil, z2, ?_⟩
      have := hb3.size
      have := HSZ.out
      omega
    have H0 : Hid (Rests ao len cap d (.slice a5 (enEs (8 * m) (lastK [] (l.take (8 * m))) (l.drop (8 * m))).length c5) (enEs (8 * m) (lastK [] (l.take (8 * m))) (l.drop (8 * m))) ∧ SKs w Q W4 none 0 none 0 noE ∧ 8 * m % 8 = 0 ∧ skE l key s = skE (l.drop (8 * m)) key s) := ⟨hrest, hK0, by omega, hsk0⟩
    have HW4 := hid hW4
    have HLE : Hid ((enEs (8 * m) (lastK [] (l.take (8 * m))) (l.drop (8 * m))).length ≤ 2000000) := by show _ ≤ _; rw [← body_at (by omega), List.length_drop, ← HBL.out.1]; have := HBL.out.2; omega
    clear hrest hr5 hsk0 hb3 hK0 hW4 hma hrs hcf b3 HBL hc2 HOF HR1 HB2
    go_wp2_with fail
    rw [← HW4.out, ← hQ]
    have HLM : Hid (8 * m < l.length) := hm8
    clear hQ hm8
    go_loopg [13] ((l.drop (8 * m)).length) (fun g r wr => ∃ (ra : Option Addr) (rc j : Nat) (p : List Int) (ka : Option Addr) (kc : Nat) (va : Option Addr) (vc : Nat) (o : EntV) (lr : List EntV), g = lr.length ∧ r = .slice ra (enEs j p lr).length rc ∧ Hid (Rests ao len cap d (.slice ra (enEs j p lr).length rc) (enEs j p lr) ∧ SKs w Q wr ka kc va vc o ∧ (j % 8 = 0 ∨ o.key = p) ∧ o.key.length ≤ 512 ∧ skE l key s = skE lr key s ∧ (∀ e ∈ lr, mayE e = true ∧ OkE e) ∧ (enEs j p lr).length ≤ 2000000))
    case atStart => exact ⟨a5, c5, 8 * m, lastK [] (l.take (8 * m)), none, 0, none, 0, noE, l.drop (8 * m), rfl, rfl, H0.out.1, H0.out.2.1, .inl H0.out.2.2.1, by simp [noE], H0.out.2.2.2, fun e he => ⟨HL.out.2.2.1 e (List.mem_of_mem_drop he), HOK.out e (List.mem_of_mem_drop he)⟩, HLE.out⟩
    case round =>
      obtain ⟨ra, rc, j, p, ka1, kc1, va1, vc1, o1, lr, hg, rfl, HK⟩ := hrel
      subst hg
      obtain ⟨RN, hRN⟩ : ∃ n, n = (enEs j p lr).length := ⟨_, rfl⟩
      rw [← hRN]
      have hR62 : RN ≤ 2 ^ 61 := by have := HK.out.2.2.2.2.2.2; omega
      by_cases hq : 0 < RN
      · have hq' : (0 : Int) < (RN : Int) := by omega
        obtain ⟨e, r, rfl⟩ : ∃ e r, lr = e :: r := by
          cases lr with
          | nil => rw [hRN] at hq; simp [enEs] at hq
          | cons e r => exact ⟨e, r, rfl⟩
        have hmo := HK.out.2.2.2.2.2.1 e (by simp)
        have hte0 := tE_next (o := o1.key) (p := p) (j := j) (e := e) (r := r) HK.out.2.2.1 HK.out.2.2.2.1 hmo.1 hmo.2 (fun x hx => (HK.out.2.2.2.2.2.1 x (by simp [hx])).2)
        have hte := tent_k ((HK.out.1 w HS.out.1).sl.later HK.out.2.1.bel) (by have := HK.out.2.2.2.2.2.2; omega) HK.out.2.1.sk.1 HK.out.2.2.2.1
        rw [← hRN] at hte
        unfold ToldK entA at hte
        rw [hte0] at hte
        simp only at hte
        have hlt := tE_less (key := o1.key) (d := enEs j p (e :: r)) HK.out.2.2.2.1 (by rw [hte0])
        rw [hte0] at hlt
        have HLT : Hid ((enEs (j + 1) e.key r).length ≤ 2000000 ∧ e.key.length ≤ 512 ∧ skE l key s = skE (e :: r) key s) := ⟨by have := HK.out.2.2.2.2.2.2; simp only at hlt; omega, (mayE_ok hmo.1).2.1, HK.out.2.2.2.2.1⟩
        have HKS := hid HK.out.2.1
        have HKR : Hid (Rests ao len cap d (.slice ra RN rc) (enEs j p (e :: r))) := by show Rests _ _ _ _ _ _; rw [hRN]; exact HK.out.1
        have HKM : Hid (∀ x ∈ r, mayE x = true ∧ OkE x) := fun x hx => HK.out.2.2.2.2.2.1 x (by simp [hx])
        obtain ⟨y0, y1, y2, y3, y4, f0, f1, f2, f3, f4⟩ := HKS.out.facts
        clear hte0 hlt hmo hRN hq HK H0 HLE
        go_upto_region 9 with (go_at_call 41; refine hte.mono ?_; rintro e9 w1 ⟨ka, kc, va, vc, rv, rfl, K1, K2, I1, I2, s1, b1⟩; clear y0 y1 y2 y3 y4 f0 f1 f2 f3 f4; obtain ⟨y0, y1, y2, y3, y4, f0, f1, f2, f3, f4⟩ := (HKS.out.later b1).facts)
        have A1 := HKS.out.next b1 K1 K2 I1 I2
        obtain ⟨W1, hW1⟩ : ∃ W1, W1 = lay5 Q w1 (.slice ka e.key.length kc) (.int .i64 e.seq) (.bool e.gone) (.int .i64 e.till) (.slice va e.val.length vc) := ⟨_, rfl⟩
        rw [← hW1] at A1
        unfold lay5 at hW1
        rw [← hW1]
        have hrr := HKR.out.trans s1
        obtain ⟨ra1, rc1, hrv⟩ := hrr.form HS.out.1
        subst hrv
        have HA1 := hid A1
        have HRR := hid hrr
        have hah := ahd_k (va := va) (vc := vc) (s := s) A1.sk.1 (HS.out.2.2.later A1.bel)
        unfold entA at hah
        clear hte K1 K2 I1 I2 s1 b1 A1 hW1 hrr y0 y1 y2 y3 y4 f0 f1 f2 f3 f4 HKR HKS
        obtain ⟨y0, y1, y2, y3, y4, f0, f1, f2, f3, f4⟩ := HA1.out.facts
        cases hA : ahK e key s with
        | true =>
          rw [hA] at hah
          have HSK : Hid (skE l key s = skE r key s) := by show _ = _; rw [HLT.out.2.2, skE_cons, if_pos hA]
          go_wp2_with (go_at_call 30; refine hah.mono ?_; rintro e9 w2 ⟨rfl, b2⟩)
          go_roundg (r.length)
          case measure => simp
          case rel => exact ⟨ra1, rc1, j + 1, e.key, ka, kc, va, vc, e, r, rfl, rfl, HRR.out, HA1.out.later b2, .inr rfl, HLT.out.2.1, HSK.out, HKM.out, HLT.out.1⟩
        | false =>
          rw [hA] at hah
          have HSK : Hid (skE l key s = some e) := by show _ = _; rw [HLT.out.2.2, skE_cons, if_neg (by rw [hA]; decide)]
          go_upto_region 10 with (go_at_call 30; refine hah.mono ?_; rintro e9 w2 ⟨rfl, b2⟩)
          have A2 := HA1.out.later b2
          have HG := hid A2.got
          clear y0 y1 y2 y3 y4 f0 f1 f2 f3 f4 hah
          obtain ⟨y0, y1, y2, y3, y4, f0, f1, f2, f3, f4⟩ := A2.facts
          obtain ⟨z0, z1, z2, z3, z4, h0, h1, h2, h3, h4⟩ := resK A2.bR
          obtain ⟨x0, x1, x2, x3, x4, ob⟩ := finK A2.bR A2.bel (.slice ka e.key.length kc) (.int .i64 e.seq) (.bool e.gone) (.int .i64 e.till) (.slice va e.val.length vc)
          have HOB := hid ob
          unfold lay5 at x0 x1 x2 x3 x4 HG HOB
          clear ob A2 b2
          go_wp2_with fail
          exact bodyPost_ret (v := .tuple #[.agg #[.slice ka e.key.length kc, .int .i64 e.seq, .bool e.gone, .int .i64 e.till, .slice va e.val.length vc], .bool true]) (by simp [results, Try.results18, go_sem, x0, x1, x2, x3, x4]) rfl ⟨⟨0, by rw [HSK.out]; exact HG.out⟩, HOB.out⟩
      · have hq' : ¬ ((0 : Int) < (RN : Int)) := by omega
        have hlr : lr = [] := enEs_nil (by rw [← hRN]; omega)
        have HSK : Hid (skE l key s = none) := by show _ = _; rw [HK.out.2.2.2.2.1, hlr]; rfl
        obtain ⟨z0, z1, z2, z3, z4, h0, h1, h2, h3, h4⟩ := resK HK.out.2.1.bR
        obtain ⟨x0, x1, x2, x3, x4, ob⟩ := finK HK.out.2.1.bR HK.out.2.1.bel (.slice none 0 0) (.int .i64 0) (.bool false) (.int .i64 0) (.slice none 0 0)
        have HOB := hid ob
        unfold lay5 at x0 x1 x2 x3 x4 HOB
        clear ob HK hlr hq hRN H0 HLE
        go_wp2_with fail
        exact bodyPost_ret (v := .tuple #[.agg #[.slice none 0 0, .int .i64 0, .bool false, .int .i64 0, .slice none 0 0], .bool false]) (by simp [results, Try.results18, go_sem, x0, x1, x2, x3, x4]) rfl ⟨⟨0, .inl ⟨HSK.out, rfl⟩⟩, HOB.out⟩
  · have q1 : tkE d ≠ 0 := fun z => q0 ((tkL d).1.2 z)
    have HSK : Hid (skE (tkB d) key s = none) := by show _ = _; unfold tkB; rw [if_neg q1]; rfl
    have hne : ((tkEL d : Int) != 0) = true := by simp; omega
    generalize tkEL d = E at hde hne
    clear h hl hk hs hb0 hz0 hsz0 hW0 q0 q1 HCU
    go_enter Try.func18, Try.ntmps18
    go_upto_region 1 with fail
    rw [← HW0.out]
    go_upto_region 3 with (go_at_call 14; refine hde.mono ?_; rintro e w1 ⟨v1, rfl, rs1, b1⟩)
    obtain ⟨zz1, zz2⟩ := HZ.out _ b1
    obtain ⟨z0, z1, z2, z3, z4, h0, h1, h2, h3, h4⟩ := resK zz1
    obtain ⟨x0, x1, x2, x3, x4, ob⟩ := finK zz1 zz2 (.slice none 0 0) (.int .i64 0) (.bool false) (.int .i64 0) (.slice none 0 0)
    have HOB := hid ob
    unfold lay5 at x0 x1 x2 x3 x4 HOB
    clear ob hde rs1 b1 zz1 zz2
    go_wp2_with fail
    exact bodyPost_ret (v := .tuple #[.agg #[.slice none 0 0, .int .i64 0, .bool false, .int .i64 0, .slice none 0 0], .bool false]) (by simp [results, Try.results18, go_sem, x0, x1, x2, x3, x4]) rfl ⟨⟨0, .inl ⟨HSK.out, rfl⟩⟩, HOB.out⟩
theorem theBs : PBs where
  seek := fun h hl hk hs => sek_k h hl hk hs
end Go.Proofs.Ytifgojkmdicdmaa

/- The laws on blocks: BlockMany. -/
namespace Go.Proofs.Ytifgojkmdicdmaa
open Go.RowKit
set_option linter.unusedVariables false
set_option linter.unusedSimpArgs false

theorem row_zerosK (w : World) (n : Nat) (hn : n ≤ 1099511627776) : Row w.heap.size (w.alloc (.cells (madeCells #[.int .u8 0] n) 5)) (.slice (some ⟨w.heap.size, 0, none⟩) n n) (List.replicate n 0) := by
  refine ⟨by simp, .inr ⟨w.heap.size, n, madeCells #[.int .u8 0] n, by simp, Nat.le_refl _, heap_alloc_new w _, by simp, by unfold maxLen; omega, by rw [size_madeCells]; omega, ?_⟩⟩
  rw [toList_madeCells_one, List.length_replicate, List.take_of_length_le (by simp)]
  simp
theorem rem_inK (n : Int) (L : Nat) (hL : 0 < L) (h2 : L ≤ 100000) : ∃ (T : Int) (N : Nat), n.tmod (L : Int) = T ∧ (T + (L : Int)).tmod (L : Int) = (N : Int) ∧ N < L ∧ wrap64 (T + (L : Int)) = T + (L : Int) := by
  have a1 : -(L : Int) < n.tmod (L : Int) ∧ n.tmod (L : Int) < (L : Int) := ⟨Int.lt_tmod_of_pos n (by omega), Int.tmod_lt_of_pos n (by omega)⟩
  obtain ⟨T, hT⟩ : ∃ T, n.tmod (L : Int) = T := ⟨_, rfl⟩
  rw [hT] at a1
  obtain ⟨p, hp⟩ := Int.eq_ofNat_of_zero_le (show 0 ≤ (T + (L : Int)).tmod (L : Int) from Int.tmod_nonneg _ (by omega))
  exact ⟨T, p, hT, hp, by have := Int.tmod_lt_of_pos (T + (L : Int)) (b := (L : Int)) (by omega); omega, by unfold wrap64; omega⟩
theorem sl_twoK (w : World) (x y : Int) (hx : 0 ≤ x ∧ x < 256) (hy : 0 ≤ y ∧ y < 256) : Sl (w.alloc (.cells #[.int .u8 x, .int .u8 y] 5)) (some ⟨w.heap.size, 0, none⟩) 2 2 [x, y] := by
  obtain ⟨c, rfl⟩ := Int.eq_ofNat_of_zero_le hx.1
  obtain ⟨d, rfl⟩ := Int.eq_ofNat_of_zero_le hy.1
  refine ⟨rfl, fun x hx => by simp at hx; omega, (fun e => by cases e), Nat.le_refl _, by unfold maxLen; omega, fun k hk => ?_⟩
  have e : (w.alloc (.cells #[.int .u8 (c : Int), .int .u8 (d : Int)] 5)).heap[w.heap.size]? = some (.cells #[.int .u8 (c : Int), .int .u8 (d : Int)] 5 (0, 0)) := heap_alloc_new w _
  match k, hk with
  | 0, _ =>
    refine ⟨by simp [xof]; omega, w.heap.size, 0, rfl, ?_⟩
    unfold World.cell?
    rw [e]
    simp [xof]
  | 1, _ =>
    refine ⟨by simp [xof]; omega, w.heap.size, 0, rfl, ?_⟩
    unfold World.cell?
    rw [e]
    simp [xof]
theorem sl_oneK (w : World) (x : Int) (hx : 0 ≤ x ∧ x < 256) : Sl (w.alloc (.cells #[.int .u8 x] 5)) (some ⟨w.heap.size, 0, none⟩) 1 1 [x] := by
  obtain ⟨c, rfl⟩ := Int.eq_ofNat_of_zero_le hx.1
  refine ⟨rfl, fun x hx => by simp at hx; omega, (fun e => by cases e), Nat.le_refl _, by unfold maxLen; omega, fun k hk => ?_⟩
  obtain rfl : k = 0 := by omega
  have e : (w.alloc (.cells #[.int .u8 (c : Int)] 5)).heap[w.heap.size]? = some (.cells #[.int .u8 (c : Int)] 5 (0, 0)) := heap_alloc_new w _
  refine ⟨by simp [xof]; omega, w.heap.size, 0, rfl, ?_⟩
  unfold World.cell?
  rw [e]
  simp [xof]
theorem sg_oneK {G : Nat → Prop} (w : World) (x : Int) (hx : 0 ≤ x ∧ x < 256) (hG : G w.heap.size) : Sg G (w.alloc (.cells #[.int .u8 x] 5)) (some ⟨w.heap.size, 0, none⟩) 1 [x] := by
  refine ⟨sl_oneK w x hx, fun b hr => ?_⟩
  obtain ⟨off, l, c, e, h0⟩ := hr
  simp only [Value.slice.injEq, Option.some.injEq, Addr.mk.injEq, and_true] at e
  obtain ⟨⟨rfl, _⟩, _⟩ := e
  exact hG
/-- The entry at a place. -/
def mkE (n k : Nat) (c : Int) (j : Nat) : EntV := ⟨List.replicate k 0 ++ [((j / 256 % 256 : Nat) : Int), ((j % 256 : Nat) : Int)], (n : Int) - (j : Int), false, 0, [c]⟩
def rowM (n k : Nat) (c : Int) (m : Nat) : List EntV := (List.range m).map (mkE n k c)
theorem rowM_succ (n k : Nat) (c : Int) (m : Nat) : rowM n k c (m + 1) = rowM n k c m ++ [mkE n k c m] := by unfold rowM; rw [List.range_succ, List.map_append]; rfl
theorem rowM_len (n k : Nat) (c : Int) (m : Nat) : (rowM n k c m).length = m := by simp [rowM]
theorem rowM_lgt {n k : Nat} {c : Int} {m : Nat} (hk : k < 100) : Lgt (rowM n k c m) := fun e he => by
  unfold rowM at he
  obtain ⟨j, _, rfl⟩ := List.mem_map.1 he
  simp [mkE]
  omega
/-- The row so far. -/
def MnB (w wx : World) (v : Value) (es : List EntV) : Prop := RowF entE w.heap.size (fun b => w.heap.size ≤ b) wx v es ∧ Below w.heap.size w wx

theorem MnB.later {w wx wy : World} {v : Value} {es : List EntV} (h : MnB w wx v es) (hb : Below wx.heap.size wx wy) : MnB w wy v es := ⟨h.1.later hb, h.2.trans (hb.mono h.2.size)⟩
/-- The row may take an entry. -/
def Rdy (p : Nat) (w wx wy : World) (v : Value) (es : List EntV) (ka : Option Addr) (kc : Nat) (va : Option Addr) (vc : Nat) (o : EntV) : Prop :=
    RowF entE w.heap.size (fun b => w.heap.size ≤ b) (wy.alloc (.cells #[.slice ka o.key.length kc, .int .i64 o.seq, .bool o.gone, .int .i64 o.till, .slice va o.val.length vc] 35)) v es ∧
    RSu entE (wy.alloc (.cells #[.slice ka o.key.length kc, .int .i64 o.seq, .bool o.gone, .int .i64 o.till, .slice va o.val.length vc] 35)) (some ⟨p, 0, none⟩) 1 1 [.slice ka o.key.length kc, .int .i64 o.seq, .bool o.gone, .int .i64 o.till, .slice va o.val.length vc] [o] ∧
    (∀ u ∈ ([.slice ka o.key.length kc, .int .i64 o.seq, .bool o.gone, .int .i64 o.till, .slice va o.val.length vc] : List Value), ∀ b, Refs u b → v.ownBlock ≠ some b) ∧
    (∀ u ∈ ([.slice ka o.key.length kc, .int .i64 o.seq, .bool o.gone, .int .i64 o.till, .slice va o.val.length vc] : List Value), ∀ b, Refs u b → w.heap.size ≤ b) ∧
    w.heap.size ≤ (wy.alloc (.cells #[.slice ka o.key.length kc, .int .i64 o.seq, .bool o.gone, .int .i64 o.till, .slice va o.val.length vc] 35)).heap.size ∧
    (∀ w9 v9, (wy.alloc (.cells #[.slice ka o.key.length kc, .int .i64 o.seq, .bool o.gone, .int .i64 o.till, .slice va o.val.length vc] 35)).grownBy w9 v.ownBlock → RowF entE w.heap.size (fun b => w.heap.size ≤ b) w9 v9 (es ++ [o]) → MnB w w9 v9 (es ++ [o]))
theorem MnB.ready {w wx wy : World} {v : Value} {es : List EntV} {ka va : Option Addr} {kc vc : Nat} {o : EntV} (h : MnB w wx v es) (hb : Below wx.heap.size wx wy) (hk : Sg (fun b => wx.heap.size ≤ b) wy ka kc o.key) (hv : Sg (fun b => wx.heap.size ≤ b) wy va vc o.val) (h1 : In64 o.seq) (h2 : In64 o.till) {p : Nat} (hp : p = wy.heap.size) :
    Rdy p w wx wy v es ka kc va vc o := by
  subst hp
  have hM : entE.M wy [.slice ka o.key.length kc, .int .i64 o.seq, .bool o.gone, .int .i64 o.till, .slice va o.val.length vc] o := ⟨ka, kc, va, vc, rfl, hk.1, hv.1, h1, h2⟩
  have hb2 : Below wy.heap.size wy (wy.alloc (.cells #[.slice ka o.key.length kc, .int .i64 o.seq, .bool o.gone, .int .i64 o.till, .slice va o.val.length vc] 35)) := (Below.refl _ wy).alloc (Nat.le_refl _) _
  have H2 := (h.later hb).later hb2
  have hgt : ∀ u ∈ ([.slice ka o.key.length kc, .int .i64 o.seq, .bool o.gone, .int .i64 o.till, .slice va o.val.length vc] : List Value), ∀ b, Refs u b → wx.heap.size ≤ b := fun u hu b hr => by
    simp only [List.mem_cons, List.not_mem_nil, or_false] at hu
    rcases hu with rfl | rfl | rfl | rfl | rfl
    · exact hk.2 b hr
    · exact (refs_int hr).elim
    · exact (refs_bool hr).elim
    · exact (refs_int hr).elim
    · exact hv.2 b hr
  have hs := h.2.size
  refine ⟨H2.1, rs_one hM, fun u hu b hr e => ?_, fun u hu b hr => ?_, H2.2.size, fun w9 v9 hg hr9 => ⟨hr9, Below.grown H2.2 hg H2.2.size fun k e => ?_⟩⟩
  · have := hgt u hu b hr
    have := (h.1.own_lt e).2
    omega
  · have := hgt u hu b hr
    omega
  · exact (h.1.own_lt e).1

set_option maxHeartbeats 4000000 in
set_option maxRecDepth 100000 in
theorem many11_any (D : PBk) (Dd : PBd) {w : World} {x0 x1 c : Int} (h0 : In64 x0) (h1 : In64 x1) (hc : 0 ≤ c ∧ c < 256) :
    Calls Try.prog 6 #[.int .i64 x0, .int .i64 x1, .int .u8 c] w fun e w' => e = .returned (.bool true) ∧ Below w.heap.size w w' := by
  obtain ⟨T0, N, g0, g0', hN, hw0⟩ := rem_inK x0 410 (by decide) (by decide)
  obtain ⟨T1, K, g1, g1', hK, hw1⟩ := rem_inK x1 100 (by decide) (by decide)
  rw [show ((410 : Nat) : Int) = 410 from rfl] at g0 g0' hw0
  rw [show ((100 : Nat) : Int) = 100 from rfl] at g1 g1' hw1
  have H0 : Hid (MnB w w (.slice none 0 0) (rowM N K c 0)) := ⟨RowF.nil _ _ _, Below.refl _ _⟩
  have HH : Hid (N < 410 ∧ K < 100 ∧ 0 ≤ c ∧ c < 256) := ⟨hN, hK, hc⟩
  have hN62 : N ≤ 2 ^ 61 := by omega
  have hK62 : K ≤ 2 ^ 61 := by omega
  clear h0 h1 hc hN hK
  go_enter Try.func6, Try.ntmps6
  go_upto_region 3 with fail
  clear g0 g0' g1 g1' hw0 hw1
  go_wp2_with fail
  go_loopg [7, 8, 9, 25] N (fun g v _ _ i wr => ∃ k : Nat, k + g = N ∧ i = .int .i64 (k : Int) ∧ Hid (MnB w wr v (rowM N K c k)))
  case atStart => exact ⟨0, by omega, rfl, H0⟩
  case round =>
    obtain ⟨k, hk, rfl, HK⟩ := hrel
    obtain ⟨v1, v2, v3, hv, hvn⟩ := HK.out.1.slice'
    subst hv
    by_cases hkl : k < N
    · have hkl' : (k : Int) < (N : Int) := by omega
      have hk62 : k ≤ 2 ^ 61 := by omega
      have HV := hid hvn
      clear hvn
      have hmk := run_make_row' (P := Try.prog) 25 5 (.int .u8 0) 1 Try.underlying25 Try.info5 rfl .i64 .i64 K (by have := HH.out; omega) (by have := HH.out; omega)
      go_upto_region 7 with fail
      obtain ⟨W1, hW1⟩ : ∃ W1, W1 = wr.alloc (.cells (madeCells #[.int .u8 0] K) 5) := ⟨_, rfl⟩
      have R1 : Hid (Row wr.heap.size W1 (.slice (some ⟨wr.heap.size, 0, none⟩) K K) (List.replicate K 0)) := by show Row _ _ _ _; rw [hW1]; exact row_zerosK wr K (by have := HH.out; omega)
      rw [← hW1]
      have HW1 := hid hW1
      have hX : 0 ≤ (k : Int) / 256 % 256 ∧ (k : Int) / 256 % 256 < 256 := by omega
      have hY : 0 ≤ (k : Int) % 256 ∧ (k : Int) % 256 < 256 := by omega
      have HXY : Hid ((0 ≤ (k : Int) / 256 % 256 ∧ (k : Int) / 256 % 256 < 256) ∧ (0 ≤ (k : Int) % 256 ∧ (k : Int) % 256 < 256)) := ⟨hX, hY⟩
      have HMK : Hid (∀ ks, ks = List.replicate K 0 ++ [(k : Int) / 256 % 256, (k : Int) % 256] → (⟨ks, (N : Int) - (k : Int), false, 0, [c]⟩ : EntV) = mkE N K c k) := fun ks e => by
        unfold mkE
        rw [e, show ((k / 256 % 256 : Nat) : Int) = (k : Int) / 256 % 256 by omega, show ((k % 256 : Nat) : Int) = (k : Int) % 256 by omega]
      have HOK : Hid (Okb (List.replicate K 0 ++ [(k : Int) / 256 % 256, (k : Int) % 256])) := fun x hx => by
        rcases List.mem_append.1 hx with q | q
        · rw [List.eq_of_mem_replicate q]; omega
        · simp at q; omega
      have HB1 : Hid (Below wr.heap.size wr W1) := by show Below _ _ _; rw [hW1]; exact (Below.refl _ _).alloc (Nat.le_refl _) _
      have hwn : wrap64 ((N : Int) - (k : Int)) = (N : Int) - (k : Int) := by unfold wrap64; omega
      have HN : Hid (In64 ((N : Int) - (k : Int))) := ⟨by omega, by omega⟩
      obtain ⟨GK, HG⟩ : ∃ g, Hid (g < gk ∧ k + 1 + g = N) := ⟨gk - 1, by omega, by omega⟩
      have HKN : Hid (k < 410 ∧ v2 = k) := ⟨by have := HH.out; omega, by rw [HV.out, rowM_len]⟩
      clear hmk hW1 hX hY hk
      have HAR : Hid (∀ v4 w4, Row wr.heap.size w4 v4 (List.replicate K 0 ++ [(k : Int) / 256 % 256, (k : Int) % 256]) → (W1.alloc (.cells #[.int .u8 ((k : Int) / 256 % 256), .int .u8 ((k : Int) % 256)] 5)).grownBy w4 (Value.slice (some ⟨wr.heap.size, 0, none⟩) K K).ownBlock → ∃ ks a4 c4, v4 = .slice a4 ks.length c4 ∧ Hid (Rdy (w4.heap.size + 1) w wr (w4.alloc (.cells #[.int .u8 c] 5)) (.slice v1 v2 v3) (rowM N K c k) a4 c4 (some ⟨w4.heap.size, 0, none⟩) 1 ⟨ks, (N : Int) - (k : Int), false, 0, [c]⟩ ∧ (⟨ks, (N : Int) - (k : Int), false, 0, [c]⟩ : EntV) = mkE N K c k)) := fun v4 w4 r4 g4 => by
        have b4 := HB1.out.trans ((((Below.refl _ W1).alloc (Nat.le_refl _) _).mono HB1.out.size).trans (grown_below (R1.out.later ((Below.refl _ W1).alloc (Nat.le_refl _) _)) g4 (Nat.le_trans HB1.out.size (by simp))))
        obtain ⟨a4, c4, hv4, S4⟩ := sg_row r4 HOK.out
        exact ⟨_, a4, c4, hv4, MnB.ready HK.out (b4.alloc b4.size (.cells #[.int .u8 c] 5)) (S4.later ((Below.refl _ w4).alloc (Nat.le_refl _) _)) (sg_oneK w4 c HH.out.2.2 b4.size) HN.out in64_0 (by simp), HMK.out _ rfl⟩
      have HS2 := hid (sl_twoK W1 _ _ HXY.out.1 HXY.out.2)
      have HR2 := hid (R1.out.later ((Below.refl _ W1).alloc (Nat.le_refl _) (.cells #[.int .u8 ((k : Int) / 256 % 256), .int .u8 ((k : Int) % 256)] 5)))
      have HSZ : Hid ((List.replicate K (0 : Int)).length + 2 ≤ 140737488355328 ∧ wr.heap.size ≤ (W1.alloc (.cells #[.int .u8 ((k : Int) / 256 % 256), .int .u8 ((k : Int) % 256)] 5)).heap.size) := ⟨by rw [List.length_replicate]; have := HH.out; omega, Nat.le_trans HB1.out.size (by simp)⟩
      go_wp2_with (first | (at_builtin; refine wpList_applN (B := wr.heap.size) rfl (.tmp 31) (.tmp 37) rfl rfl HR2.out rfl HS2.out HSZ.out.1 HSZ.out.2 ?_; intro v4 w4 r4 g4 m4; obtain ⟨ks, a4, c4, rfl, HRD⟩ := HAR.out v4 w4 r4 g4; clear r4 g4 m4) | (at_builtin; refine wpList_appF entE (t := 22) (z := .agg #[.slice none 0 0, .int .i64 0, .bool false, .int .i64 0, .slice none 0 0]) (bytes := 72) (B := w.heap.size) Try.underlying22 entE_info rfl (by decide) rfl (.tmp 30) (.tmp 45) rfl rfl HRD.out.1.1 rfl HRD.out.1.2.1 HRD.out.1.2.2.1 HRD.out.1.2.2.2.1 (by rw [rowM_len]; have := HKN.out; omega) (by rw [rowM_len]; have := HKN.out; omega) HRD.out.1.2.2.2.2.1 ?_; intro v9 w9 r9 g9 m9))
      have M9 := HRD.out.1.2.2.2.2.2 w9 v9 g9 r9
      rw [HRD.out.2, ← rowM_succ] at M9
      have HM9 := hid M9
      clear M9 r9 g9 m9 HRD
      go_roundg GK
      case measure => exact HG.out.1
      case rel => exact ⟨k + 1, HG.out.2, by go_num, HM9.out⟩
    · have hkl' : ¬ ((k : Int) < (N : Int)) := by omega
      obtain rfl : k = N := by omega
      have hlen := rowM_len k K c k
      rw [hlen] at hvn
      subst hvn
      have hlg : Lgt (rowM v2 K c v2) := rowM_lgt HH.out.2.1
      obtain ⟨a0, c0, he0, rs0⟩ := HK.out.1.s.rs
      rw [hlen] at he0 rs0
      simp only [Value.slice.injEq] at he0
      obtain ⟨rfl, _, rfl⟩ := he0
      have HB := hid HK.out.2
      have hE := D.encode rs0 (by have := HH.out; omega) hlg
      have HR : Hid (∀ wx, Below wr.heap.size wr wx → Calls Try.prog 11 #[.slice v1 v2 v3] wx fun e w' => ∃ v, e = .returned (.tuple #[v, .int .i64 ((blkE (rowM v2 K c v2) : Nat) : Int)]) ∧ SlV w' v (encX (rowM v2 K c v2)) ∧ Below wx.heap.size wx w') := fun wx hb => rblkX_any (rs0.later hb) (by have := HH.out; omega)
      have HAW : Hid (∀ wx, Calls Try.prog 9 #[] wx fun e w' => e = .returned (.bool true) ∧ Below wx.heap.size wx w') := fun wx => awake11_any D wx
      have HRS := hid rs0
      obtain ⟨L, hL⟩ : ∃ L, L = rowM v2 K c v2 := ⟨_, rfl⟩
      rw [← hL] at hE HR HRS hlen
      have hok := HRS.out.okE
      have HXL : Hid ((encX L).length ≤ 2000000) := by
        unfold encX
        by_cases z : blkE L = 0
        · rw [if_pos z]
          have ho := blkE_ok z
          have a1 := enEs_tlen (List.all_eq_true.2 ho.2.2.1) L.length (Nat.le_refl _)
          have a2 := enTl_tlen (l := L) L.length (Nat.le_refl _)
          rw [List.take_length] at a1 a2
          unfold blkB
          show _ ≤ _
          rw [List.length_append, List.length_append, fx_length]
          omega
        · rw [if_neg z]; show _ ≤ _; simp
      by_cases q : blkE L = 0
      · obtain ⟨t1, t2⟩ := tk_of_blk q hok
        have hX : encX L = blkB L := by unfold encX; rw [if_pos q]
        rw [← hX] at t1 t2
        rw [q] at hE HR
        obtain ⟨X, hXX⟩ : ∃ X, X = encX L := ⟨_, rfl⟩
        rw [← hXX] at t1 t2 hE HR HXL
        obtain ⟨XL, hXL⟩ : ∃ n, n = X.length := ⟨_, rfl⟩
        have HLN := hid hXL
        have HD : Hid (∀ {wx : World} {a : Option Addr} {c : Nat}, Sl wx a XL c X → Calls Try.prog 14 #[.slice a XL c] wx fun e w' => ∃ a' c', e = .returned (.tuple #[.slice a' L.length c', .int .i64 0]) ∧ RS entE w' a' L.length c' L ∧ Below wx.heap.size wx w') := fun {wx a c} hx => (Dd.decode hx (by rw [hXL]; exact HXL.out)).mono fun e w' ⟨v, E, he, hE, ⟨a', c', hv, hr⟩, hb⟩ => by
          rw [t2] at hv hr
          rw [hE.2 t1, hv] at he
          exact ⟨a', c', he, hr, hb⟩
        rw [hlen] at HD
        clear t1 t2 hX hXX q hL hlg hok rs0 hXL hlen H0 HK
        go_wp2_with fail
        refine hE.mono ?_
        rintro e w2 ⟨v2', rfl, ⟨a2, c2, hv2, s2⟩, b2⟩
        rw [← HLN.out] at hv2 s2
        subst hv2
        clear hE
        go_wp2_with fail
        refine (HR.out _ b2).mono ?_
        rintro e w3 ⟨v3', rfl, ⟨a3, c3, hv3, s3⟩, b3⟩
        rw [← HLN.out] at hv3 s3
        subst hv3
        have t2 := str_l (s2.later b3)
        have t3 := str_l s3
        have hd := HD.out (s2.later b3)
        have HB3 : Hid (Below w.heap.size w w3 ∧ Below wr.heap.size wr w3) := ⟨(HB.out.trans (b2.mono HB.out.size)).trans (b3.mono (Nat.le_trans HB.out.size b2.size)), b2.trans (b3.mono b2.size)⟩
        generalize strOfNums X = sX at t2 t3
        clear s2 s3 b2 b3 HR HD
        go_upto_region 14 with (go_at_call 14; refine hd.mono ?_; rintro e w4 ⟨a4, c4, rfl, rs4, b4⟩)
        have hSm := rsameE_eq rs4 ((HRS.out.later HB3.out.2).later b4)
        have B4 := hid (HB3.out.1.trans (b4.mono HB3.out.1.size))
        clear t2 t3 hd rs4 b4
        go_wp2_with (first | (go_at_call 16; refine hSm.mono ?_; rintro e w5 ⟨rfl, b5⟩) | (go_at_call 9; refine (HAW.out _).mono ?_; rintro e w6 ⟨rfl, b6⟩))
        exact bodyPost_ret (v := .bool true) (by simp [results, Try.results6, go_sem]) rfl ⟨rfl, (B4.out.trans (b5.mono B4.out.size)).trans (b6.mono (Nat.le_trans B4.out.size b5.size))⟩
      · have hX : encX L = [] := by unfold encX; rw [if_neg q]
        rw [hX] at hE HR
        have hne : ((blkE L : Int) != 0) = true := by simp; omega
        have hne2 : ((blkE L : Int) == 0) = false := by simp; omega
        have hnn : ¬ ((blkE L : Int) = 0) := by omega
        have heq : ((blkE L : Int) == (blkE L : Int)) = true := by simp
        generalize blkE L = E at hE HR hne hne2 hnn heq
        have HD : Hid (∀ {wx : World} {a : Option Addr} {c : Nat}, Sl wx a 0 c [] → Calls Try.prog 14 #[.slice a 0 c] wx fun e w' => ∃ (v : Value) (G : Nat), e = .returned (.tuple #[v, .int .i64 (G : Int)]) ∧ G ≠ 0 ∧ Below wx.heap.size wx w') := fun {wx a c} hx => (Dd.decode hx (by omega)).mono fun e w' ⟨v, G, he, hG, hr, hb⟩ => ⟨v, G, he, fun z => by have := hG.1 z; simp [tkE] at this, hb⟩
        clear hX q hL hlg hok rs0 hlen H0 HK HXL
        go_wp2_with fail
        refine hE.mono ?_
        rintro e w2 ⟨v2', rfl, ⟨a2, c2, rfl, s2⟩, b2⟩
        clear hE
        go_wp2_with fail
        refine (HR.out _ b2).mono ?_
        rintro e w3 ⟨v3', rfl, ⟨a3, c3, rfl, s3⟩, b3⟩
        have t2 := str_l (s2.later b3)
        have t3 := str_l s3
        have hd := HD.out (s2.later b3)
        have HB3 : Hid (Below w.heap.size w w3) := (HB.out.trans (b2.mono HB.out.size)).trans (b3.mono (Nat.le_trans HB.out.size b2.size))
        generalize strOfNums [] = sX at t2 t3
        rw [show ([] : List Int).length = 0 from rfl] at t2 t3
        clear s2 s3 b2 b3 HR HD
        go_upto_region 14 with (go_at_call 14; refine hd.mono ?_; rintro e w4 ⟨v4, G, rfl, hG, b4⟩)
        have hG1 : ((G : Int) == 0) = false := by simp; omega
        have hG2 : ¬ ((G : Int) = 0) := by omega
        have B4 := hid (HB3.out.trans (b4.mono HB3.out.size))
        clear t2 t3 hd b4 hG
        go_wp2_with (go_at_call 9; refine (HAW.out _).mono ?_; rintro e w6 ⟨rfl, b6⟩)
        exact bodyPost_ret (v := .bool true) (by simp [results, Try.results6, go_sem]) rfl ⟨rfl, B4.out.trans (b6.mono B4.out.size)⟩
end Go.Proofs.Ytifgojkmdicdmaa
