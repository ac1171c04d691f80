/- Rows of records as frames, side by side, and where each ends. -/
import Derived.Test.YtbinabegiikcaaaPlong
namespace Go.Proofs.Ytbinabegiikcaaa
open Go.RowKit
set_option linter.unusedVariables false
set_option linter.unusedSimpArgs false

theorem _root_.Go.Proofs.Try.info3 : (Try.prog.info? 3).map (fun i => (i.zero, i.size, i.bytes)) = some (some (.int .i64 0), 1, 8) := by kernel_rfl
/-- A row of numbers that the call itself made. -/
def RowI (B : Nat) (w : World) (v : Value) (es : List Int) : Prop := w.ownsRow B 3 1 v es.length (es.map (Value.int .i64))
theorem RowI.nil (B : Nat) (w : World) : RowI B w (.slice none 0 0) [] := World.ownsRow_nil w B 3 1
theorem RowI.later {B : Nat} {w w' : World} {v : Value} {es : List Int} (h : RowI B w v es) (hb : Below w.heap.size w w') : RowI B w' v es := by
  unfold RowI at h ⊢
  refine ⟨h.1, ?_⟩
  rcases h.2 with q | ⟨g, cap, cur, q1, q2, q3, q4⟩
  · exact .inl q
  · exact .inr ⟨g, cap, cur, q1, q2, by rw [hb.block g (Array.getElem?_eq_some_iff.1 q3).1]; exact q3, q4⟩
theorem wpList_appI {w : World} {ops : Array Oper} {rest : List Oper} {o : Oper} {a : Act} {Q : Exit → Act → World → Prop} {s x : Operand} {B : Nat} {v : Value} {es : List Int} {y : Int} (hgd : o.guard = none)
    (ho : o.op = .call { callee := .builtin .append, args := #[s, x], argTypes := #[38, 38] }) (hs : a.eval s = v) (hx : a.eval x = .slice (some ⟨w.heap.size, 0, none⟩) 1 1) (hrow : RowI B w v es) (hb : es.length + 1 ≤ 1099511627776) (hB : B ≤ w.heap.size)
    (h : ∀ v' w', RowI B w' v' (es ++ [y]) → Below B w w' → (∀ {ao : Option Addr} {len cap : Nat} {xs : List Int}, Sl w ao len cap xs → (xs ≠ [] → ∀ b off, ao = some ⟨b, off, none⟩ → v.ownBlock ≠ some b) → Sl w' ao len cap xs) → wpList Try.prog ops Q rest (a.put o.dst v') w') : wpList Try.prog ops Q (o :: rest) a (w.alloc (.cells #[.int .i64 y] 3)) := by
  have hl : (es.map (Value.int .i64)).length = es.length := by simp
  have hrow' : (w.alloc (.cells #[.int .i64 y] 3)).ownsRow B 3 1 v (es.map (Value.int .i64)).length (es.map (Value.int .i64)) := by rw [hl]; exact World.ownsRow.alloc hrow _
  have hB' : B ≤ (w.alloc (.cells #[.int .i64 y] 3)).heap.size := by simp; omega
  refine wpList_own hgd s x 38 3 _ 8 ho Try.underlying38 Try.info3 rfl B v _ hs hrow' ⟨w.heap.size, 0, none⟩ 1 1 [.int .i64 y] hx rfl ?_ ?_ (by omega) (by omega) (by decide) hB' fun v' w' h1 h2 hmv => h v' w' ?_ ?_ ?_
  · intro j u hu
    have hj : j = 0 := by
      cases j with
      | zero => rfl
      | succ j => simp at hu
    subst hj
    simp at hu
    rw [← hu]
    simp [Addr.add]
  · intro u hu
    simp at hu
    subst hu
    rfl
  · unfold RowI
    rw [List.map_append]
    have : (es ++ [y]).length = (es.map (Value.int .i64) ++ [Value.int .i64 y]).length := by simp
    rw [this]
    exact h1
  · exact ((Below.refl B w).alloc hB _).trans (Below.grown (Below.refl _ _) h2 hB' (fun k hk => (World.ownsRow.lt hrow' k hk).1))
  · exact fun {ao len cap xs} q1 q2 => (q1.later ((Below.refl _ w).alloc (Nat.le_refl _) _)).grown h2 q2

/-- Where the frames end. -/
def ends (rs : List (List Int)) (k : Nat) : List Int := (List.range k).map fun j => ((frs (rs.take (j + 1))).length : Int)
theorem ends_succ (rs : List (List Int)) (k : Nat) : ends rs (k + 1) = ends rs k ++ [((frs (rs.take (k + 1))).length : Int)] := by simp [ends, List.range_succ]
theorem ends_len (rs : List (List Int)) (k : Nat) : (ends rs k).length = k := by simp [ends]
def Small (rs : List (List Int)) : Prop := rs.length ≤ 20 ∧ ∀ r ∈ rs, r.length ≤ 2000
theorem frs_small : ∀ (rs : List (List Int)), (∀ r ∈ rs, r.length ≤ 2000) → (frs rs).length ≤ 2014 * rs.length
  | [], _ => Nat.le_refl _
  | r :: l, h => by
    have h1 := frs_small l fun s hs => h s (List.mem_cons_of_mem _ hs)
    have h2 := h r (List.mem_cons_self ..)
    have h3 := uv_len64 (n := r.length) (by omega)
    rw [frs, List.length_append, fr_len, List.length_cons]
    omega
theorem frs_take {rs : List (List Int)} {k : Nat} (h : k < rs.length) : frs (rs.take (k + 1)) = frs (rs.take k) ++ fr rs[k] := by
  rw [List.take_add_one, List.getElem?_eq_getElem h, frs_app]
  simp [frs]

/-- Where the walk stands. -/
def Rw (rs : List (List Int)) (W w : World) (k : Nat) (v5 v6 : Value) : Prop :=
  SlV w v5 (frs (rs.take k)) ∧ RowI W.heap.size w v6 (ends rs k) ∧ Below W.heap.size W w ∧ k ≤ 20 ∧ (∀ r ∈ rs.take k, r.length ≤ 2000)

set_option maxHeartbeats 2000000 in
set_option maxRecDepth 100000 in
theorem rows_any (D : PF) {w : World} {ao : Option Addr} {len cap : Nat} {rs : List (List Int)} (h : RB w ao len cap rs) : Calls Try.prog 17 #[.slice ao len cap] w fun e w' =>
    ((Small rs ∧ ∃ v5 v6, e = .returned (.tuple #[v5, v6, .bool true]) ∧ SlV w' v5 (frs rs) ∧ RowI w.heap.size w' v6 (ends rs rs.length)) ∨ (¬ Small rs ∧ e = .returned (.tuple #[.slice none 0 0, .slice none 0 0, .bool false]))) ∧ Below w.heap.size w w' := by
  have hmax : len ≤ 2 ^ 63 - 1 := by have := h.2.2; unfold maxLen at this; omega
  have HR : Hid (RB w ao len cap rs) := h
  have H0 : Hid (Rw rs w w 0 (.slice none 0 0) (.slice none 0 0)) := ⟨slv_nil w, RowI.nil _ _, Below.refl _ _, by omega, fun r hr => by simp at hr⟩
  clear h
  go_enter Try.func17, Try.ntmps17
  go_wp2_with fail
  go_loopg [5, 6, 7, 8, 9, 10, 13] len (fun g v5 v6 _ _ _ _ i wr => ∃ k : Nat, k + g = len ∧ i = .int .i64 (k : Int) ∧ Hid (Rw rs w wr k v5 v6))
  case atStart => exact ⟨0, by omega, rfl, H0⟩
  case round =>
    obtain ⟨k, hk, rfl, HK⟩ := hrel
    by_cases hkl : k < len
    · have hkl' : (k : Int) < (len : Int) := by omega
      have hkr : k < rs.length := by have := HR.out.1; omega
      obtain ⟨b, off, a, c, hao, hc0, hsl0⟩ := HR.out.2.2.2.2 k rs[k] (List.getElem?_eq_getElem hkr)
      subst hao
      have hc := cell_later HK.out.2.2.1 hc0
      have hsl := hsl0.later HK.out.2.2.1
      obtain ⟨r, hr⟩ : ∃ r, r = rs[k] := ⟨_, rfl⟩
      rw [← hr] at hc hsl
      obtain ⟨n, hn⟩ : ∃ n, n = r.length := ⟨_, rfl⟩
      have hmem : r ∈ rs := by rw [hr]; exact List.getElem_mem hkr
      have hn62 : n ≤ 2 ^ 63 - 1 := by have := hsl.2.2.2; unfold maxLen at this; omega
      rw [← hn] at hc hsl
      have hk62 : k ≤ 2 ^ 62 := by have := HK.out.2.2.2.1; omega
      by_cases h20 : 20 ≤ k
      · have h20' : (20 : Int) ≤ (k : Int) := by omega
        have hns : ¬ Small rs := fun q => by have := q.1; omega
        have HB : Hid (Below w.heap.size w wr) := HK.out.2.2.1
        clear hk hsl hsl0 hc0 hmem hr hn HK
        go_wp2_with fail
        exact bodyPost_ret (v := .tuple #[.slice none 0 0, .slice none 0 0, .bool false]) (by simp [results, Try.results17, go_sem]) rfl ⟨.inr ⟨hns, rfl⟩, HB.out⟩
      · have h20' : (k : Int) < 20 := by omega
        by_cases h2k : 2000 < n
        · have h2k' : (2000 : Int) < (n : Int) := by omega
          have hns : ¬ Small rs := fun q => by have := q.2 r hmem; omega
          have HB : Hid (Below w.heap.size w wr) := HK.out.2.2.1
          clear hk hsl hsl0 hc0 hmem hr hn HK
          go_wp2_with fail
          exact bodyPost_ret (v := .tuple #[.slice none 0 0, .slice none 0 0, .bool false]) (by simp [results, Try.results17, go_sem]) rfl ⟨.inr ⟨hns, rfl⟩, HB.out⟩
        · have h2k' : (n : Int) ≤ 2000 := by omega
          obtain ⟨a5, c5, hv5, hs5⟩ := HK.out.1
          subst hv5
          have hall : ∀ s ∈ rs.take (k + 1), s.length ≤ 2000 := fun s hs => by
            rw [List.take_add_one, List.getElem?_eq_getElem hkr] at hs
            rcases List.mem_append.1 hs with q | q
            · exact HK.out.2.2.2.2 s q
            · simp at q
              rw [q, ← hr, ← hn]
              omega
          have hlen0 : (frs (rs.take k)).length ≤ 50000 := by
            have := frs_small _ HK.out.2.2.2.2
            rw [List.length_take] at this
            omega
          have hp := D.putR hs5 hsl (by omega) (by omega)
          have hft := frs_take hkr
          rw [← hr] at hft
          rw [← hft] at hp
          obtain ⟨F, hF⟩ : ∃ F, F = frs (rs.take (k + 1)) := ⟨_, rfl⟩
          obtain ⟨f0, hf0⟩ : ∃ f0, f0 = (frs (rs.take k)).length := ⟨_, rfl⟩
          rw [← hF] at hp
          rw [← hf0] at hp ⊢
          have hFl : F.length ≤ 2 ^ 62 := by
            have := frs_small _ hall
            rw [← hF, List.length_take] at this
            omega
          obtain ⟨GK, HG⟩ : ∃ g, Hid (g < gk ∧ k + 1 + g = len) := ⟨gk - 1, by omega, by omega⟩
          have HX : Hid (RowI w.heap.size wr u6 (ends rs k) ∧ Below w.heap.size w wr ∧ k < 20 ∧ (∀ s ∈ rs.take (k + 1), s.length ≤ 2000) ∧ F = frs (rs.take (k + 1))) := ⟨HK.out.2.1, HK.out.2.2.1, by omega, hall, hF⟩
          have ez : ((0 : Int) != 0) = false := rfl
          have hokF : Okb F := by rw [hF, hft]; exact hs5.2.1.app (okb_fr hsl.2.1)
          clear hk hsl hsl0 hc0 hmem hr hn HK hs5 hall hlen0 hft hF hf0
          go_wp2_with (first | (go_at_call 8; refine hp.mono ?_; rintro e w1 ⟨v1, rfl, hrw1, hb1⟩; obtain ⟨a1, c1, hv1e, hs1⟩ := SlV.ofRow hrw1 hokF; subst hv1e) | (at_builtin; refine wpList_appI (s := .tmp 34) (x := .tmp 37) (w := w1) (y := (F.length : Int)) rfl rfl rfl rfl (HX.out.1.later hb1) (by have := HX.out.2.2.1; rw [ends_len]; omega) (Nat.le_trans HX.out.2.1.size hb1.size) ?_; intro v6 w6 hr6 hb6 hkp6))
          go_roundg GK
          case measure => exact HG.out.1
          case rel =>
            refine ⟨k + 1, HG.out.2, by go_num, ?_, ?_, (HX.out.2.1.trans (hb1.mono HX.out.2.1.size)).trans hb6, by have := HX.out.2.2.1; omega, HX.out.2.2.2.1⟩
            · rw [← HX.out.2.2.2.2]
              refine ⟨a1, c1, rfl, hkp6 hs1 (fun _ b off e hv => ?_)⟩
              have q1 := (World.ownsRow.lt hrw1 b (by rw [e]; rfl)).1
              have q2 := (World.ownsRow.lt HX.out.1 b hv).2
              omega
            · rw [ends_succ, ← HX.out.2.2.2.2]; exact hr6
    · have hkl' : (len : Int) ≤ (k : Int) := by omega
      have hke : k = rs.length := by have := HR.out.1; omega
      subst hke
      have HX : Hid (Small rs ∧ SlV wr u5 (frs rs) ∧ RowI w.heap.size wr u6 (ends rs rs.length) ∧ Below w.heap.size w wr) := by
        obtain ⟨q1, q2, q3, q4, q5⟩ := HK.out
        rw [List.take_of_length_le (Nat.le_refl _)] at q1 q5
        exact ⟨⟨q4, q5⟩, q1, q2, q3⟩
      clear hk hkl HK
      go_wp2_with fail
      exact bodyPost_ret (v := .tuple #[u5, u6, .bool true]) (by simp [results, Try.results17, go_sem]) rfl ⟨.inl ⟨HX.out.1, u5, u6, rfl, HX.out.2.1, HX.out.2.2.1⟩, HX.out.2.2.2⟩
end Go.Proofs.Ytbinabegiikcaaa
