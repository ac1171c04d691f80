/- The laws on blocks: BlockSeeks. -/
import Derived.Test.YtifgojkmdicdmaaBklaw4
import Derived.Test.YtifgojkmdicdmaaLk7
import Derived.Test.YtifgojkmdicdmaaMlist
namespace Go.Proofs.Ytifgojkmdicdmaa
open Go.RowKit
set_option linter.unusedVariables false
set_option linter.unusedSimpArgs false

/-- What is wanted, so far. -/
def wnE (g : Option EntV) : EntV := g.getD ⟨[], 0, false, 0, []⟩
structure WnS (w : World) (p : Nat) (wx : World) (ka : Option Addr) (kc : Nat) (va : Option Addr) (vc : Nat) (o : EntV) : Prop where
  bo : wx.heap[p]? = some (.cells #[.slice ka o.key.length kc, .int .i64 o.seq, .bool o.gone, .int .i64 o.till, .slice va o.val.length vc] 35 (0, 0))
  sk : Sg (fun b => b < p) wx ka kc o.key
  sv : Sg (fun b => b < p) wx va vc o.val
  bel : Below w.heap.size w wx
  hp : w.heap.size ≤ p
theorem WnS.later {w : World} {p : Nat} {wx wy : World} {ka : Option Addr} {kc : Nat} {va : Option Addr} {vc : Nat} {o : EntV} (h : WnS w p wx ka kc va vc o) (hb : Below wx.heap.size wx wy) : WnS w p wy ka kc va vc o :=
  ⟨(hb.block _ (Array.getElem?_eq_some_iff.1 h.bo).1).trans h.bo, h.sk.later hb, h.sv.later hb, h.bel.trans (hb.mono h.bel.size), h.hp⟩
theorem WnS.facts {w : World} {p : Nat} {wx : World} {ka : Option Addr} {kc : Nat} {va : Option Addr} {vc : Nat} {o : EntV} (h : WnS w p wx ka kc va vc o) :
    wx.cell? ⟨p, 0, none⟩ = some (.slice ka o.key.length kc) ∧ wx.cell? ⟨p, 1, none⟩ = some (.int .i64 o.seq) ∧ wx.cell? ⟨p, 2, none⟩ = some (.bool o.gone) ∧ wx.cell? ⟨p, 3, none⟩ = some (.int .i64 o.till) ∧ wx.cell? ⟨p, 4, none⟩ = some (.slice va o.val.length vc) ∧
    wx.frozen? ⟨p, 0, none⟩ = false ∧ wx.frozen? ⟨p, 1, none⟩ = false ∧ wx.frozen? ⟨p, 2, none⟩ = false ∧ wx.frozen? ⟨p, 3, none⟩ = false ∧ wx.frozen? ⟨p, 4, none⟩ = false :=
  ⟨by rw [cell_of h.bo]; rfl, by rw [cell_of h.bo]; rfl, by rw [cell_of h.bo]; rfl, by rw [cell_of h.bo]; rfl, by rw [cell_of h.bo]; rfl, frozen_of h.bo 0, frozen_of h.bo 1, frozen_of h.bo 2, frozen_of h.bo 3, frozen_of h.bo 4⟩
theorem WnS.set {w : World} {p : Nat} {wx : World} {ka0 : Option Addr} {kc0 : Nat} {va0 : Option Addr} {vc0 : Nat} {o0 : EntV} (h : WnS w p wx ka0 kc0 va0 vc0 o0) {ka : Option Addr} {kc : Nat} {va : Option Addr} {vc : Nat} {o : EntV} (hk : Sg (fun b => b < p) wx ka kc o.key) (hv : Sg (fun b => b < p) wx va vc o.val) :
    WnS w p (lay5 p wx (.slice ka o.key.length kc) (.int .i64 o.seq) (.bool o.gone) (.int .i64 o.till) (.slice va o.val.length vc)) ka kc va vc o := by
  have hg := lay5_grown p wx (.slice ka o.key.length kc) (.int .i64 o.seq) (.bool o.gone) (.int .i64 o.till) (.slice va o.val.length vc)
  have hp := h.hp
  refine ⟨lay5_block h.bo _ _ _ _ _, hk.grown hg fun b hb e => ?_, hv.grown hg fun b hb e => ?_, Below.grown h.bel hg h.bel.size fun k e => ?_, hp⟩
  · simp only [Option.some.injEq] at e; omega
  · simp only [Option.some.injEq] at e; omega
  · simp only [Option.some.injEq] at e; omega
theorem wns_begin {w w0 : World} (hb : Below w.heap.size w w0) : WnS w w0.heap.size (w0.alloc (.cells #[.slice none 0 0, .int .i64 0, .bool false, .int .i64 0, .slice none 0 0] 35)) none 0 none 0 (wnE none) :=
  ⟨heap_alloc_new w0 _, Sg.nil _ _, Sg.nil _ _, hb.alloc hb.size _, hb.size⟩
theorem skE_take {l : List EntV} {key : List Int} {s : Int} {k : Nat} (h : k < l.length) : skE (l.take (k + 1)) key s = if (skE (l.take k) key s).isSome = true then skE (l.take k) key s else if 0 < cmp l[k].key key ∨ cmp l[k].key key = 0 ∧ l[k].seq ≤ s then some l[k] else none := by
  have e : skE (l.take (k + 1)) key s = (skE (l.take k) key s).or (skE [l[k]] key s) := by
    unfold skE
    rw [take_snoc h, List.find?_append]
  rw [e]
  cases hs : skE (l.take k) key s with
  | some x => simp
  | none =>
    simp only [Option.or, Option.isSome_none, Bool.false_eq_true, if_false]
    unfold skE
    rw [List.find?_singleton]
    simp
theorem gotE_want {B : Nat} {g : Option EntV} {r : Ending} {w' : World} (h : GotE B g r w') : ∃ ka kc va vc, r = .returned (.tuple #[.agg #[.slice ka (wnE g).key.length kc, .int .i64 (wnE g).seq, .bool (wnE g).gone, .int .i64 (wnE g).till, .slice va (wnE g).val.length vc], .bool g.isSome]) ∧ Sl w' ka (wnE g).key.length kc (wnE g).key ∧ Sl w' va (wnE g).val.length vc (wnE g).val := by
  rcases h with ⟨rfl, he⟩ | ⟨x, ka, kc, va, vc, rfl, he, hM, _⟩
  · exact ⟨none, 0, none, 0, he, Sl.nil _, Sl.nil _⟩
  · obtain ⟨a, c, b, d, e, s1, s2, _⟩ := hM
    unfold entL at e
    simp only [List.cons.injEq, Value.slice.injEq, and_true, true_and] at e
    obtain ⟨⟨rfl, rfl⟩, rfl, rfl⟩ := e
    exact ⟨ka, kc, va, vc, he, s1, s2⟩
theorem tkB_nil : tkB [] = [] := rfl

set_option maxHeartbeats 4000000 in
set_option maxRecDepth 100000 in
theorem seeks11_any (D : PBk) (Ds : PBs) {w : World} {ao ka0 : Option Addr} {len cap kl kc0 : Nat} {l : List EntV} {key : List Int} {s : Int} (h : RS entE w ao len cap l) (hk : Sl w ka0 kl kc0 key) (hs : In64 s) :
    Calls Try.prog 5 #[.slice ao len cap, .slice ka0 kl kc0, .int .i64 s] w fun e w' => e = .returned (.bool true) ∧ Below w.heap.size w w' := by
  have hso := sorted11_any h
  have HAW : Hid (∀ wx, Calls Try.prog 9 #[] wx fun e w' => e = .returned (.bool true) ∧ Below wx.heap.size wx w') := fun wx => awake11_any D wx
  have HKY := hid (And.intro hk hs)
  clear h hk hs
  go_enter Try.func5, Try.ntmps5
  go_wp2_with fail
  refine hso.mono ?_
  rintro e w1 ⟨v1, rfl, L, SR⟩
  obtain ⟨a1, c1, rfl, rs1⟩ := SR.rs
  have hn60 := SR.2.2.2.1
  have hE := D.encode rs1 (by omega) (may_lgt SR.2.2.1)
  have hbe := blkE_srt (by omega) SR.2.2.1 SR.2.1
  have HSR : Hid (SrS w 60 w1 (.slice a1 L.length c1) L) := SR
  have HB1 := hid SR.2.2.2.2
  clear hso rs1
  by_cases q0 : L.length = 0
  · rw [if_pos q0] at hbe
    have hX : encX L = [] := by unfold encX; rw [if_neg (by rw [hbe]; decide)]
    rw [hbe, hX] at hE
    have q0' : ((L.length : Int) == 0) = true := by rw [q0]; rfl
    have q00 : (L.length : Int) = 0 := by omega
    have HSK : Hid (∀ {wx : World} {a : Option Addr} {c : Nat}, Sl wx a 0 c [] → Below w.heap.size w wx → Calls Try.prog 18 #[.slice a 0 c, .slice ka0 kl kc0, .int .i64 s] wx fun r w' => ∃ ka kc va vc, r = .returned (.tuple #[.agg #[.slice ka 0 kc, .int .i64 0, .bool false, .int .i64 0, .slice va 0 vc], .bool false]) ∧ Below wx.heap.size wx w') := fun {wx a c} hx hb => by
      refine (Ds.seek hx (by omega) (HKY.out.1.later hb) HKY.out.2).mono ?_
      rintro r w' ⟨⟨B, hg⟩, hb'⟩
      rw [tkB_nil] at hg
      obtain ⟨ka, kc, va, vc, he, _, _⟩ := gotE_want hg
      exact ⟨ka, kc, va, vc, he, hb'⟩
    generalize L.length = n at q0' q00 hE HSR
    clear q0 hbe hn60 hX SR
    go_wp2_with fail
    refine hE.mono ?_
    rintro e w2 ⟨v2, rfl, ⟨a2, c2, rfl, s2⟩, b2⟩
    have hB2 := HB1.out.trans (b2.mono HB1.out.size)
    have hsk := HSK.out s2 hB2
    have HB2 := hid hB2
    clear hE s2 b2 hB2
    go_upto_region 5 with (go_at_call 18; refine hsk.mono ?_; rintro e w3 ⟨ka, kc, va, vc, rfl, b3⟩)
    have HB3 := hid (HB2.out.trans (b3.mono HB2.out.size))
    have HB4 : Hid (Below w.heap.size w (w3.alloc (.cells #[.slice ka 0 kc, .int .i64 0, .bool false, .int .i64 0, .slice va 0 vc] 35))) := HB3.out.alloc HB3.out.size _
    clear hsk b3
    go_wp2_with (go_at_call 9; refine (HAW.out _).mono ?_; rintro e w4 ⟨rfl, b4⟩)
    exact bodyPost_ret (v := .bool true) (by simp [results, Try.results5, go_sem]) rfl ⟨rfl, HB4.out.trans (b4.mono HB4.out.size)⟩
  · rw [if_neg q0] at hbe
    have hX : encX L = blkB L := by unfold encX; rw [if_pos hbe]
    have hlen := blkB_len (L := L) (by omega) (by omega) SR.2.2.1
    obtain ⟨rs0a, rs0c, _, rsL⟩ := SR.rs
    obtain ⟨t1, t2⟩ := tk_of_blk hbe rsL.okE
    rw [hbe, hX] at hE
    obtain ⟨X, hXX⟩ : ∃ X, X = blkB L := ⟨_, rfl⟩
    rw [← hXX] at hE hlen t1 t2
    obtain ⟨XL, hXL⟩ : ∃ n, n = X.length := ⟨_, rfl⟩
    have HXL := hid hXL
    have HSK : Hid (∀ {wx : World} {a : Option Addr} {c : Nat}, Sl wx a XL c X → Below w.heap.size w wx → Calls Try.prog 18 #[.slice a XL c, .slice ka0 kl kc0, .int .i64 s] wx fun r w' => ∃ ka kc va vc, r = .returned (.tuple #[.agg #[.slice ka (wnE (skE L key s)).key.length kc, .int .i64 (wnE (skE L key s)).seq, .bool (wnE (skE L key s)).gone, .int .i64 (wnE (skE L key s)).till, .slice va (wnE (skE L key s)).val.length vc], .bool (skE L key s).isSome]) ∧ Sl w' ka (wnE (skE L key s)).key.length kc (wnE (skE L key s)).key ∧ Sl w' va (wnE (skE L key s)).val.length vc (wnE (skE L key s)).val ∧ Below wx.heap.size wx w') := fun {wx a c} hx hb => by
      refine (Ds.seek hx (by omega) (HKY.out.1.later hb) HKY.out.2).mono ?_
      rintro r w' ⟨⟨B, hg⟩, hb'⟩
      rw [t2] at hg
      obtain ⟨ka, kc, va, vc, he, k1, k2⟩ := gotE_want hg
      exact ⟨ka, kc, va, vc, he, k1, k2, hb'⟩
    obtain ⟨n, hn⟩ : ∃ n, n = L.length := ⟨_, rfl⟩
    have hLn : ¬ ((n : Int) = 0) := by omega
    have hLn2 : ((n : Int) == 0) = false := by simp; omega
    have hn62 : n ≤ 2 ^ 61 := by omega
    rw [← hn] at hE HSR ⊢
    have HN := hid hn
    clear q0 hbe hX hlen t1 t2 hXX hXL SR hn60 rsL hn
    go_wp2_with fail
    refine hE.mono ?_
    rintro e w2 ⟨v2, rfl, ⟨a2, c2, hv2, s2⟩, b2⟩
    rw [← HXL.out] at hv2 s2
    subst hv2
    have hB2 := HB1.out.trans (b2.mono HB1.out.size)
    have H0 := hid (wns_begin hB2)
    have HS2 : Hid (Sl w2 a2 XL c2 X ∧ Below w1.heap.size w1 w2) := ⟨s2, b2⟩
    obtain ⟨p, hp⟩ : ∃ p, p = w2.heap.size := ⟨_, rfl⟩
    obtain ⟨W3, hW3⟩ : ∃ W3, W3 = w2.alloc (.cells #[.slice none 0 0, .int .i64 0, .bool false, .int .i64 0, .slice none 0 0] 35) := ⟨_, rfl⟩
    rw [← hp, ← hW3] at H0
    have HW3 : Hid (W3 = w2.alloc (.cells #[.slice none 0 0, .int .i64 0, .bool false, .int .i64 0, .slice none 0 0] 35)) := hW3
    have HB3 : Hid (Below w2.heap.size w2 W3) := by show Below _ _ _; rw [hW3]; exact (Below.refl _ _).alloc (Nat.le_refl _) _
    clear hE s2 b2 hB2 hW3
    go_wp2_with fail
    rw [← HW3.out, ← hp]
    have H00 : Hid (skE (L.take 0) key s = none) := rfl
    have HP2 : Hid (w2.heap.size ≤ p) := by show _ ≤ _; omega
    clear hp
    go_loopg [13, 15, 16, 48] n (fun g hs _ _ i wr => ∃ (k : Nat) (ka : Option Addr) (kc : Nat) (va : Option Addr) (vc : Nat), k + g = n ∧ i = .int .i64 (k : Int) ∧ hs = .bool (skE (L.take k) key s).isSome ∧ Hid (WnS w p wr ka kc va vc (wnE (skE (L.take k) key s)) ∧ Below w2.heap.size w2 wr))
    case atStart => exact ⟨0, none, 0, none, 0, by omega, rfl, by rw [H00.out]; rfl, by rw [H00.out]; exact H0.out, HB3.out⟩
    case round =>
      obtain ⟨k, ka1, kc1, va1, vc1, hk, rfl, rfl, HK⟩ := hrel
      by_cases hkl : k < n
      · have hkl' : (k : Int) < (n : Int) := by omega
        have hkx : k < L.length := by have := HN.out; omega
        obtain ⟨ra, rca, hra, hrsg⟩ := HSR.out.1.rsg
        simp only [Value.slice.injEq] at hra
        obtain ⟨rfl, hnl, rfl⟩ := hra
        clear hnl
        obtain ⟨b, off, ka, kc, va, vc, rfl, e0, e1, e2, e3, e4, hem, sk, heg⟩ := RSG.ent hrsg (List.getElem?_eq_getElem hkx)
        have bw1 : Below w1.heap.size w1 wr := HS2.out.2.trans (HK.out.2.mono HS2.out.2.size)
        have d0 := cell_later bw1 e0
        have d1 := cell_later bw1 e1
        have d2 := cell_later bw1 e2
        have d3 := cell_later bw1 e3
        have d4 := cell_later bw1 e4
        have hst := skE_take (key := key) (s := s) hkx
        have sv : Sl w1 va L[k].val.length vc L[k].val := by
          obtain ⟨a', c', b', d', e', s1', s2', _⟩ := hem
          simp only [List.cons.injEq, Value.slice.injEq, and_true, true_and] at e'
          obtain ⟨⟨rfl, rfl⟩, rfl, rfl⟩ := e'
          exact s2'
        have hkr : ∀ b', Refs (.slice ka L[k].key.length kc) b' → b' < w.heap.size := fun b' hr => heg _ (by simp) b' hr
        have hvr : ∀ b', Refs (.slice va L[k].val.length vc) b' → b' < w.heap.size := fun b' hr => heg _ (by simp) b' hr
        generalize L[k] = o at d0 d1 d2 d3 d4 hst sk sv hkr hvr
        have hpp := HK.out.1.hp
        have HST1 := hid hst
        obtain ⟨GK, HG⟩ : ∃ g, Hid (g < gk ∧ k + 1 + g = n) := ⟨gk - 1, by omega, by omega⟩
        have hk62 : k ≤ 2 ^ 61 := by omega
        obtain ⟨W4, hW4⟩ : ∃ W4, W4 = wr.alloc (.cells #[.slice ka o.key.length kc, .int .i64 o.seq, .bool o.gone, .int .i64 o.till, .slice va o.val.length vc] 35) := ⟨_, rfl⟩
        have b4 : Below wr.heap.size wr W4 := by rw [hW4]; exact (Below.refl _ _).alloc (Nat.le_refl _) _
        have hbx : ∀ wx, Below W4.heap.size W4 wx → _ := fun wx hb => box_cells wr (.slice ka o.key.length kc) (.int .i64 o.seq) (.bool o.gone) (.int .i64 o.till) (.slice va o.val.length vc) 35 (wx := wx) (by rw [← hW4]; exact hb)
        have HBX := hid hbx
        have hcc := rcmp_any ((sk.later bw1).later b4) ((HKY.out.1.later HK.out.1.bel).later b4)
        have HNX : Hid (∀ wx, Below W4.heap.size W4 wx → (WnS w p wx ka1 kc1 va1 vc1 (wnE (skE (L.take k) key s)) ∧ Below w2.heap.size w2 wx) ∧ (Sg (fun b' => b' < p) wx ka kc o.key ∧ Sg (fun b' => b' < p) wx va vc o.val)) := fun wx hb => by
          have h1 := b4.trans (hb.mono b4.size)
          refine ⟨⟨HK.out.1.later h1, HK.out.2.trans (h1.mono HK.out.2.size)⟩, ⟨(sk.later bw1).later h1, fun b' hr => ?_⟩, ⟨(sv.later bw1).later h1, fun b' hr => ?_⟩⟩
          · have := hkr b' hr; omega
          · have := hvr b' hr; omega
        have HW4 := hid hW4
        have HPP : Hid (w2.heap.size ≤ p) := HP2.out
        clear hk hrsg e0 e1 e2 e3 e4 hem sk sv heg bw1 hst hkr hvr hpp hW4 b4 hbx hkx hkl
        generalize cmp o.key key = c at hcc HST1
        go_upto_region 10 with fail
        rw [← HW4.out]
        obtain ⟨x0, x1, x2, x3, x4⟩ := HBX.out _ (Below.refl _ _)
        go_upto_region 11 with (go_at_call 19; refine hcc.mono ?_; rintro e w5 ⟨rfl, b5⟩)
        clear x0 x1 x2 x3 x4 d0 d1 d2 d3 d4
        obtain ⟨x0, x1, x2, x3, x4⟩ := HBX.out _ b5
        have HW5 := hid (HNX.out _ b5).1
        have HSG := hid (HNX.out _ b5).2
        clear hcc b5 HK HNX
        cases hb : (skE (L.take k) key s).isSome with
        | true =>
          have HST : Hid (skE (L.take (k + 1)) key s = skE (L.take k) key s) := by show _ = _; rw [HST1.out, if_pos hb]
          go_wp2_with fail
          go_roundg GK
          case measure => exact HG.out.1
          case rel => exact ⟨k + 1, ka1, kc1, va1, vc1, HG.out.2, by go_num, by rw [HST.out, hb], by rw [HST.out]; exact HW5.out.1, HW5.out.2⟩
        | false =>
          have HST : Hid (¬ (0 < c ∨ c = 0 ∧ o.seq ≤ s) → skE (L.take (k + 1)) key s = skE (L.take k) key s) := fun hc => by
            rw [HST1.out, if_neg (by rw [hb]; decide), if_neg hc]
            cases hz : skE (L.take k) key s with
            | none => rfl
            | some x => rw [hz] at hb; cases hb
          have HSY : Hid ((0 < c ∨ c = 0 ∧ o.seq ≤ s) → skE (L.take (k + 1)) key s = some o) := fun hc => by rw [HST1.out, if_neg (by rw [hb]; decide), if_pos hc]
          by_cases q1 : 0 < c
          · have HC : Hid (0 < c ∨ c = 0 ∧ o.seq ≤ s) := .inl q1
            have q1' : decide ((0 : Int) < c) = true := by simpa using q1
            have A := HW5.out.1.set HSG.out.1 HSG.out.2
            have hb6 : Below w2.heap.size w2 (lay5 p w5 (.slice ka o.key.length kc) (.int .i64 o.seq) (.bool o.gone) (.int .i64 o.till) (.slice va o.val.length vc)) := Below.grown HW5.out.2 (lay5_grown _ _ _ _ _ _ _) HW5.out.2.size (fun j e => by simp only [Option.some.injEq] at e; have := HPP.out; omega)
            have HA : Hid (WnS w p (lay5 p w5 (.slice ka o.key.length kc) (.int .i64 o.seq) (.bool o.gone) (.int .i64 o.till) (.slice va o.val.length vc)) ka kc va vc o ∧ Below w2.heap.size w2 (lay5 p w5 (.slice ka o.key.length kc) (.int .i64 o.seq) (.bool o.gone) (.int .i64 o.till) (.slice va o.val.length vc))) := ⟨A, hb6⟩
            unfold lay5 at HA
            obtain ⟨u0, u1, u2, u3, u4, f0, f1, f2, f3, f4⟩ := HW5.out.1.facts
            clear A hb6
            go_wp2_with fail
            go_roundg GK
            case measure => exact HG.out.1
            case rel => exact ⟨k + 1, ka, kc, va, vc, HG.out.2, by go_num, by rw [HSY.out HC.out]; rfl, by rw [HSY.out HC.out]; exact HA.out.1, HA.out.2⟩
          · have q1' : decide ((0 : Int) < c) = false := by simpa using q1
            by_cases q2 : c = 0
            · have q2' : (c == 0) = true := by simpa using q2
              by_cases q3 : o.seq ≤ s
              · have HC : Hid (0 < c ∨ c = 0 ∧ o.seq ≤ s) := .inr ⟨q2, q3⟩
                have q3' : decide (o.seq ≤ s) = true := by simpa using q3
                have A := HW5.out.1.set HSG.out.1 HSG.out.2
                have hb6 : Below w2.heap.size w2 (lay5 p w5 (.slice ka o.key.length kc) (.int .i64 o.seq) (.bool o.gone) (.int .i64 o.till) (.slice va o.val.length vc)) := Below.grown HW5.out.2 (lay5_grown _ _ _ _ _ _ _) HW5.out.2.size (fun j e => by simp only [Option.some.injEq] at e; have := HPP.out; omega)
                have HA : Hid (WnS w p (lay5 p w5 (.slice ka o.key.length kc) (.int .i64 o.seq) (.bool o.gone) (.int .i64 o.till) (.slice va o.val.length vc)) ka kc va vc o ∧ Below w2.heap.size w2 (lay5 p w5 (.slice ka o.key.length kc) (.int .i64 o.seq) (.bool o.gone) (.int .i64 o.till) (.slice va o.val.length vc))) := ⟨A, hb6⟩
                unfold lay5 at HA
                obtain ⟨u0, u1, u2, u3, u4, f0, f1, f2, f3, f4⟩ := HW5.out.1.facts
                clear A hb6
                go_wp2_with fail
                go_roundg GK
                case measure => exact HG.out.1
                case rel => exact ⟨k + 1, ka, kc, va, vc, HG.out.2, by go_num, by rw [HSY.out HC.out]; rfl, by rw [HSY.out HC.out]; exact HA.out.1, HA.out.2⟩
              · have HC : Hid (¬ (0 < c ∨ c = 0 ∧ o.seq ≤ s)) := fun z => by rcases z with z | z; exact q1 z; exact q3 z.2
                have q3' : decide (o.seq ≤ s) = false := by simpa using q3
                go_wp2_with fail
                go_roundg GK
                case measure => exact HG.out.1
                case rel => exact ⟨k + 1, ka1, kc1, va1, vc1, HG.out.2, by go_num, by rw [HST.out HC.out, hb], by rw [HST.out HC.out]; exact HW5.out.1, HW5.out.2⟩
            · have HC : Hid (¬ (0 < c ∨ c = 0 ∧ o.seq ≤ s)) := fun z => by rcases z with z | z; exact q1 z; exact q2 z.1
              have q2' : (c == 0) = false := by simpa using q2
              go_wp2_with fail
              go_roundg GK
              case measure => exact HG.out.1
              case rel => exact ⟨k + 1, ka1, kc1, va1, vc1, HG.out.2, by go_num, by rw [HST.out HC.out, hb], by rw [HST.out HC.out]; exact HW5.out.1, HW5.out.2⟩
      · have hkl' : ¬ ((k : Int) < (n : Int)) := by omega
        obtain rfl : k = L.length := by have := HN.out; omega
        rw [List.take_length] at HK ⊢
        have hbw := HK.out.1.bel
        have hsk := HSK.out (HS2.out.1.later HK.out.2) hbw
        have HWN := hid HK.out.1
        generalize hgg : skE L key s = g at hsk HWN ⊢
        generalize hbb : g.isSome = bb at hsk ⊢
        generalize hoo : wnE g = o at hsk HWN
        clear hk hkl HK hbw hgg hbb hoo HSK
        go_upto_region 15 with (go_at_call 18; refine hsk.mono ?_; rintro e w5 ⟨ka, kc, va, vc, rfl, k1, k2, b5⟩)
        have ba := (Below.refl w5.heap.size w5).alloc (Nat.le_refl _) (.cells #[.slice ka o.key.length kc, .int .i64 o.seq, .bool o.gone, .int .i64 o.till, .slice va o.val.length vc] 35)
        have A5 := (HWN.out.later b5).later ba
        obtain ⟨u0, u1, u2, u3, u4, f0, f1, f2, f3, f4⟩ := A5.facts
        have hsm := rsameE1_eq (seq := o.seq) (till := o.till) (gone := o.gone) (k1.later ba) (k2.later ba) A5.sk.1 A5.sv.1
        have HB6 := hid A5.bel
        clear hsk k1 k2 b5 ba A5 f0 f1 f2 f3 f4
        go_wp2_with (first | (go_at_call 20; refine hsm.mono ?_; rintro e w6 ⟨rfl, b6⟩) | (go_at_call 9; refine (HAW.out _).mono ?_; rintro e w7 ⟨rfl, b7⟩))
        exact bodyPost_ret (v := .bool true) (by simp [results, Try.results5, go_sem]) rfl ⟨rfl, (HB6.out.trans (b6.mono HB6.out.size)).trans (b7.mono (Nat.le_trans HB6.out.size b6.size))⟩
end Go.Proofs.Ytifgojkmdicdmaa
