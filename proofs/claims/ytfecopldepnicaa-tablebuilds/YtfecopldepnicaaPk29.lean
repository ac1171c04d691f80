import Derived.Deep.RegionHeldLaw
import Derived.Test.YtfecopldepnicaaPk06
import Derived.Test.YtfecopldepnicaaPk08
import Derived.Test.YtfecopldepnicaaPk13
import Derived.Test.YtfecopldepnicaaPk14
import Derived.Test.YtfecopldepnicaaPk28
/- The landed block: which entry stands ahead; Ordered. -/
namespace Go.Proofs.Ytfecopldepnicaa
open Go.RowKit
set_option linter.unusedVariables false
set_option linter.unusedSimpArgs false

/-- Is the entry ahead of that key and number? -/
def ahK (e : EntV) (key : List Int) (s : Int) : Bool := decide (cmp e.key key < 0 ∨ cmp e.key key = 0 ∧ s < e.seq)
theorem ahK_ahead (a b : EntV) : ahK a b.key b.seq = true ↔ ahead a b < 0 := by
  unfold ahK ahead
  simp only [decide_eq_true_eq]
  have := cmp_vals a.key b.key
  by_cases h : cmp a.key b.key = 0
  · rw [if_neg (not_not_intro h)]
    by_cases q : b.seq < a.seq
    · simp [h, q]
    · rw [if_neg q]
      have : ¬ ((if a.seq < b.seq then (1 : Int) else 0) < 0) := by split <;> decide
      simp [h, q, this]
  · rw [if_pos h]
    simp [h]

set_option maxHeartbeats 2000000 in
set_option maxRecDepth 100000 in
theorem ahd_k {w : World} {ka va ba : Option Addr} {kc vc lb cb : Nat} {e : EntV} {key : List Int} {s : Int} (hk : Sl w ka e.key.length kc e.key) (hb : Sl w ba lb cb key) :
    Calls Try.prog 60 #[entA ka kc va vc e, .slice ba lb cb, .int .i64 s] w fun r w' => r = .returned (.bool (ahK e key s)) ∧ Below w.heap.size w w' := by
  obtain ⟨k0, seq, gone, till, vl⟩ := e
  unfold entA ahK
  simp only at hk ⊢
  obtain ⟨W, hW⟩ : ∃ W, W = w.alloc (.cells #[.slice ka k0.length kc, .int .i64 seq, .bool gone, .int .i64 till, .slice va vl.length vc] 34) := ⟨_, rfl⟩
  have b1 : Below w.heap.size w W := by rw [hW]; exact (Below.refl _ _).alloc (Nat.le_refl _) _
  have hc := compare_l (hk.later b1) (hb.later b1)
  have y1 : W.cell? ⟨w.heap.size, 1, none⟩ = some (.int .i64 seq) := by rw [hW, cell_of (heap_alloc_new w _)]; rfl
  have HB := hid b1
  have hv := cmp_vals k0 key
  generalize cmp k0 key = c at hc hv ⊢
  generalize k0.length = kl at hc hW
  generalize vl.length = ln at hW
  rw [hW] at hc y1 HB
  clear hk hb b1 hW
  go_enter Try.func60, Try.ntmps60
  rcases hv with rfl | rfl | rfl
  · go_wp2_with (go_at_call 55; refine hc.mono ?_; rintro e w' ⟨rfl, hw⟩; obtain rfl := hw.symm)
    exact bodyPost_ret (v := .bool true) (by simp [results, Try.results60, go_sem]) rfl ⟨by simp, HB.out⟩
  · by_cases q : s < seq
    · go_wp2_with (go_at_call 55; refine hc.mono ?_; rintro e w' ⟨rfl, hw⟩; obtain rfl := hw.symm)
      exact bodyPost_ret (v := .bool true) (by simp [results, Try.results60, go_sem, q]) rfl ⟨by simp [q], HB.out⟩
    · go_wp2_with (go_at_call 55; refine hc.mono ?_; rintro e w' ⟨rfl, hw⟩; obtain rfl := hw.symm)
      exact bodyPost_ret (v := .bool false) (by simp [results, Try.results60, go_sem, q]) rfl ⟨by simp [q], HB.out⟩
  · go_wp2_with (go_at_call 55; refine hc.mono ?_; rintro e w' ⟨rfl, hw⟩; obtain rfl := hw.symm)
    exact bodyPost_ret (v := .bool false) (by simp [results, Try.results60, go_sem]) rfl ⟨by simp, HB.out⟩

set_option maxHeartbeats 4000000 in
set_option maxRecDepth 100000 in
theorem ord_k {w : World} {ao : Option Addr} {len cap : Nat} {l : List EntV} (h : RS entE w ao len cap l) (hl : len ≤ 1000000) :
    Calls Try.prog 29 #[.slice ao len cap] w fun r w' => r = .returned (.bool (ordB l)) ∧ Below w.heap.size w w' := by
  have HS : Hid (RS entE w ao len cap l ∧ True ∧ len ≤ 1000000) := ⟨h, trivial, hl⟩
  have hln : l.length = len := h.len.1
  have hl62 : len ≤ 2 ^ 61 := by omega
  clear h hl
  go_enter Try.func29, Try.ntmps29
  go_wp2_with fail
  go_loopg [3] len (fun g i wr => ∃ k : Nat, (k + g = len ∨ (k = 0 ∧ g = len)) ∧ i = .int .i64 ((k + 1 : Nat) : Int) ∧ Hid (Below w.heap.size w wr) ∧ Hid (∀ j (h : j + 1 < l.length), j < k → ahead l[j] l[j + 1] < 0))
  case atStart => exact ⟨0, .inr ⟨rfl, rfl⟩, rfl, Below.refl _ _, fun j _ h => absurd h (by omega)⟩
  case round =>
    obtain ⟨k, hk, rfl, HK, HC⟩ := hrel
    by_cases hkl : k + 1 < len
    · have hkl' : (k : Int) + 1 < (len : Int) := by omega
      have hdl : decide ((k : Int) + 1 < (len : Int)) = true := by simpa using hkl'
      have hx1 : k < l.length := by omega
      have hx2 : k + 1 < l.length := by omega
      obtain ⟨b, off, ka, kc, va, vc, hab, d0, d1, d2, d3, d4, s1, s2, i1, i2⟩ := RS.ent (HS.out.1.later HK.out) (List.getElem?_eq_getElem hx1)
      obtain ⟨b', off', kb, kd, vb, vd, hab', e0, e1, e2, e3, e4, t1, t2, j1, j2⟩ := RS.ent (HS.out.1.later HK.out) (List.getElem?_eq_getElem hx2)
      rw [hab] at hab'
      simp only [Option.some.injEq, Addr.mk.injEq, and_true] at hab'
      obtain ⟨rfl, rfl⟩ := hab'
      subst hab
      have hah := ahK_ahead l[k] l[k + 1]
      have HN : Hid (ahK l[k] l[k + 1].key l[k + 1].seq = false → ordB l = false) := fun q => ordB_not hx2 (fun q2 => by rw [hah.2 q2] at q; cases q)
      have HP : Hid (ahK l[k] l[k + 1].key l[k + 1].seq = true → ∀ j (h : j + 1 < l.length), j < k + 1 → ahead l[j] l[j + 1] < 0) := fun q j hj hjk => if e : j = k then by subst e; exact hah.1 q else HC.out j hj (by omega)
      have hA := ahd_k (va := va) (vc := vc) (s := l[k + 1].seq) (s1.drewN 1) (t1.drewN 1)
      unfold entA at hA
      clear hah
      generalize ahK l[k] l[k + 1].key l[k + 1].seq = c at hA HN HP
      generalize l[k] = o at d0 d1 d2 d3 d4 hA
      generalize l[k + 1] = o' at e0 e1 e2 e3 e4 hA
      generalize o.key.length = kl at d0 hA
      generalize o.val.length = ln at d4 hA
      generalize o.seq = seq at d1 hA
      generalize o.gone = gone at d2 hA
      generalize o.till = till at d3 hA
      generalize o'.key.length = kl2 at e0 hA
      generalize o'.seq = seq2 at e1 hA
      have hk62 : k ≤ 2 ^ 60 := by have := HS.out.2.2; omega
      have hwa : IntKind.i64.wrap ((k : Int) + 1 - 1) = (k : Int) := by rw [IntKind.wrap_i64]; omega
      have hwb : wrap64 ((k : Int) + 1 - 1) = (k : Int) := by unfold wrap64; omega
      have hwc : IntKind.i64.wrap (k : Int) = (k : Int) := by rw [IntKind.wrap_i64]; omega
      have hwd : wrap64 (k : Int) = (k : Int) := by unfold wrap64; omega
      have hkl0 : (k : Int) < (len : Int) := by omega
      have hkl3 : k < len := by omega
      obtain ⟨GK, HG⟩ : ∃ g, Hid (g < gk ∧ k + 1 + g = len) := ⟨len - (k + 1), by omega, by omega⟩
      have HKB : Hid (∀ wx, Below wr.drew.heap.size wr.drew wx → Below w.heap.size w wx) := fun wx hb => HK.out.drew.trans (hb.mono HK.out.drew.size)
      clear s1 s2 i1 i2 t1 t2 j1 j2 hk e2 e3 e4
      go_wp2_with fail
      go_region_held_law (fun w' => (w'.cell? ⟨b, off + k * 5, none⟩ = some (.slice ka kl kc) ∧ w'.cell? ⟨b, off + k * 5 + 1, none⟩ = some (.int .i64 seq) ∧ w'.cell? ⟨b, off + k * 5 + 2, none⟩ = some (.bool gone) ∧ w'.cell? ⟨b, off + k * 5 + 3, none⟩ = some (.int .i64 till) ∧ w'.cell? ⟨b, off + k * 5 + 4, none⟩ = some (.slice va ln vc)) ∧ (w'.cell? ⟨b, off + (k + 1) * 5, none⟩ = some (.slice kb kl2 kd) ∧ w'.cell? ⟨b, off + (k + 1) * 5 + 1, none⟩ = some (.int .i64 seq2))) (first | exact ⟨⟨d0, d1, d2, d3, d4⟩, ⟨e0, e1⟩⟩ | exact ⟨⟨cell_later hb5 d0, cell_later hb5 d1, cell_later hb5 d2, cell_later hb5 d3, cell_later hb5 d4⟩, ⟨cell_later hb5 e0, cell_later hb5 e1⟩⟩) (first | (go_at_call 60; refine hA.mono ?_; rintro e w5 ⟨rfl, hb5⟩))
      all_goals
        cases c with
        | true =>
          go_wp2_with fail
          go_roundg GK
          case measure => exact HG.out.1
          case rel => exact ⟨k + 1, .inl HG.out.2, by go_num, HKB.out _ hb5, HP.out (by first | exact trivial | rfl)⟩
        | false =>
          go_wp2_with fail
          exact bodyPost_ret (v := .bool false) (by simp [results, Try.results29, go_sem]) rfl ⟨by rw [HN.out (by first | exact trivial | rfl)], HKB.out _ hb5⟩
    · have hkl' : (len : Int) ≤ (k : Int) + 1 := by omega
      have HT : Hid (ordB l = true) := ordB_chain fun j hj => HC.out j hj (by omega)
      clear hk hkl
      go_wp2_with fail
      exact bodyPost_ret (v := .bool true) (by simp [results, Try.results29, go_sem]) rfl ⟨by rw [HT.out], HK.out⟩
end Go.Proofs.Ytfecopldepnicaa

/- What the landed batch's May answers. -/
namespace Go.Proofs.Ytfecopldepnicaa
open Go.RowKit
set_option linter.unusedVariables false
set_option linter.unusedSimpArgs false

/-- What is wrong with a batch's numbers: 0: nothing. -/
def mayN (s : Int) (n : Nat) : Nat := if n < 1 ∨ 400 < n then 13 else if s < 1 ∨ 4611686018427387904 - ((n : Int) - 1) < s then 1 else 0
theorem mayB_n (s : Int) (os : List OpV) : mayB s os = if mayN s os.length ≠ 0 then mayN s os.length else mayO os := by
  unfold mayB mayN
  split
  · simp
  · split <;> simp

end Go.Proofs.Ytfecopldepnicaa

/- What the landed batch's Encode answers. -/
namespace Go.Proofs.Ytfecopldepnicaa
open Go.RowKit
set_option linter.unusedVariables false
set_option linter.unusedSimpArgs false

/-- vint's Put and PutBytes of nothing. -/
theorem vput_nil {w : World} {n : Nat} (hn : n < 18446744073709551616) : Calls Try.prog 88 #[.slice none 0 0, .int .u64 (n : Int)] w fun e w' => ∃ v', e = .returned v' ∧ Row w.heap.size w' v' (uv n) ∧ Below w.heap.size w w' :=
  put_any none 0 0 n (xof []) w (fun k hk => by cases hk) (fun _ => ⟨rfl, rfl⟩) (by omega) hn
theorem vpby_nil {w : World} {so : Option Addr} {ls cs : Nat} {rs : List Int} (h : Sl w so ls cs rs) (hl : ls ≤ 140737488351232) : Calls Try.prog 89 #[.slice none 0 0, .slice so ls cs] w fun e w' => ∃ v', e = .returned v' ∧ Row w.heap.size w' v' (lb rs) ∧ Below w.heap.size w w' := by
  refine (pby_any none so 0 0 ls cs (xof []) (xof rs) w (fun k hk => by cases hk) (fun _ => ⟨rfl, rfl⟩) h.2.2.2.2.2 h.2.2.1 (by omega)).mono ?_
  rintro e w' ⟨v', rfl, h1, h2⟩
  rw [← h.1, bs_xof h.2.1] at h1
  exact ⟨v', rfl, h1, h2⟩
/-- Bytes behind a row of one's own, as a step of a region that draws. -/
theorem step_appl {ops : Array Oper} {w : World} {o : Oper} {a : Act} {K : Act → World → Prop} {Q : Exit → Act → World → Prop} {E : Prop} {B : Nat} {v : Value} {xs ys : List Int} {ao : Option Addr} {m c : Nat} (hgd : o.guard = none) (s x : Operand)
    (ho : o.op = .call { callee := .builtin .append, args := #[s, x], argTypes := #[25, 25] }) (hs : a.eval s = v) (hrow : Row B w v xs) (hx : a.eval x = .slice ao m c) (hsl : Sl w ao m c ys) (hb : xs.length + m ≤ 140737488355328) (hB : B ≤ w.heap.size)
    (h : ∀ v' w', Row B w' v' (xs ++ ys) → w.grownBy w' v.ownBlock → Moved w v v' → K (a.put o.dst v') w') :
    if Region.wanted o (yielded ops a.tmps) = true then Oper.wp Try.prog o a w K Q else E := by
  have hw : Region.wanted o (yielded ops a.tmps) = true := by simp [Region.wanted, hgd]
  rw [if_pos hw]
  obtain ⟨v', w', hr, h2, h3, h4⟩ := run_app B w o.type v xs hrow ao m c (xof ys) hsl.2.2.1 hsl.2.2.2.2.2 hb hB
  rw [← hsl.1, bs_xof hsl.2.1] at h2
  unfold Oper.wp execOp
  simp only [ho, resolve, invoke, builtin, Sem.run_bind, Sem.run_pure, Result.andThen_ok, List.map_toArray, List.map_cons, List.map_nil, hs, hx, hr]
  exact h _ _ h2 h3 h4
theorem wpList_appl {w : World} {ops : Array Oper} {rest : List Oper} {o : Oper} {a : Act} {Q : Exit → Act → World → Prop} {B : Nat} {v : Value} {xs ys : List Int} {ao : Option Addr} {m c : Nat} (hgd : o.guard = none) (s x : Operand)
    (ho : o.op = .call { callee := .builtin .append, args := #[s, x], argTypes := #[25, 25] }) (hs : a.eval s = v) (hrow : Row B w v xs) (hx : a.eval x = .slice ao m c) (hsl : Sl w ao m c ys) (hb : xs.length + m ≤ 140737488355328) (hB : B ≤ w.heap.size)
    (h : ∀ v' w', Row B w' v' (xs ++ ys) → w.grownBy w' v.ownBlock → Moved w v v' → wpList Try.prog ops Q rest (a.put o.dst v') w') : wpList Try.prog ops Q (o :: rest) a w :=
  wpList_plain hgd fun K hK => by
    obtain ⟨v', w', hr, h2, h3, h4⟩ := run_app B w o.type v xs hrow ao m c (xof ys) hsl.2.2.1 hsl.2.2.2.2.2 hb hB
    rw [← hsl.1, bs_xof hsl.2.1] at h2
    unfold Oper.wp execOp
    simp only [ho, resolve, invoke, builtin, Sem.run_bind, Sem.run_pure, Result.andThen_ok, List.map_toArray, List.map_cons, List.map_nil, hs, hx, hr]
    exact hK _ _ (h v' w' h2 h3 h4)
theorem Mid.later {W : World} {ob : Nat} {C : Array Value} {t : TypeId} {wx wy : World} {v : Value} {ys : List Int} (h : Mid W ob C t wx v ys) (hb : Below wx.heap.size wx wy) : Mid W ob C t wy v ys :=
  ⟨h.row.later hb, h.bel.trans (hb.mono h.bel.size), (hb.block ob (Array.getElem?_eq_some_iff.1 h.blk).1).trans h.blk, h.ne⟩

end Go.Proofs.Ytfecopldepnicaa
