/- slices.Backward of a key's entries: a range over it. -/
import Derived.Test.YtaefddnmldbgiabDoorNrep
import Derived.RangeFuncNested
import Derived.RangeFuncBound
import Derived.RangeFuncCalls
import Derived.RangeFuncLeaves
import Derived.Shelf.Abstract
import Derived.Shelf.RegionOpen
import Derived.WalkKit
import Derived.OwnWalkIn
import Derived.TacticsInMore
import Derived.LoopNIn
import Derived.LoopIn
namespace Go.Proofs.YtaefddnmldbgiabDoor
open Go.RowKit Go.Shelf
set_option linter.unusedVariables false
set_option linter.unusedSimpArgs false
attribute [local go_sem] Oper.semAt_some

/-- What comes of a key: its place, the entry. -/
abbrev Com (m : Nd) := { x : Nat × Vr // x.2 ∈ m.vs }
def encC {m : Nd} (x : Com m) : Array Value := #[.int .i64 (x.1.1 : Int), .pointer (some ⟨x.1.2.b, 0, none⟩)]

set_option maxRecDepth 100000 in
set_option maxHeartbeats 2000000 in
theorem bw1_in (F : Fence) (n : Nat) (hf : F.fn 38) (hro : F.round = none) (hn : 1 ≤ n) (l Bs : Nat) (Kp : World → World → Prop) (hKr : ∀ A, Kp A A) (hKt : ∀ {A B C : World}, Kp A B → Kp B C → Kp A C) (m : Nd) (ao : Option Addr) (cap : Nat) (hvl : m.vs.length ≤ 100000) (J Jx : List (Com m) → World → Prop)
    (hY : ∀ pre x W, J pre W → pre.length < m.vs.length → YieldAt F (n - 1) Tryd.prog l (encC x) W fun e W' =>
      (e = .returned (.bool true) ∧ J (pre ++ [x]) W' ∧ Kp W W') ∨ (e = .returned (.bool false) ∧ Jx (pre ++ [x]) W'))
    (W : World) (hBs : ∀ W', Kp W W' → W'.cell? ⟨Bs, 0, none⟩ = some (.slice ao m.vs.length cap)) (hc : ∀ W', Kp W W' → ∀ i v, m.vs[i]? = some v → ∃ b, ao = some ⟨b, 0, none⟩ ∧ W'.cell? ⟨b, i, none⟩ = some (.pointer (some ⟨v.b, 0, none⟩))) (h0 : J [] W) :
    CallsIn F n Tryd.prog 38 #[.func (.yield l) #[] #[], .pointer (some ⟨Bs, 0, none⟩)] W fun e W' => (∃ v, e = .returned v) ∧
      ((∃ ys : List (Com m), ys.map (fun x => x.1.2) = m.vs.reverse ∧ J ys W') ∨ (∃ pre, Jx pre W')) := by
  refine callsIn_of_wp Tryd.func38 rfl hf ?_ hro
  simp only [Tryd.ntmps38, List.size_toArray, List.length_cons, List.length_nil, Nat.reduceAdd, Nat.reduceSub, Array.replicate_succ, Array.replicate_zero, List.push_toArray, List.append_toArray, List.nil_append, List.cons_append]
  have hb0 := hBs W (hKr _)
  obtain ⟨N, hN⟩ : ∃ N, N = m.vs.length := ⟨_, rfl⟩
  rw [← hN] at hvl hb0
  have HBS : Hid (∀ W', Kp W W' → W'.cell? ⟨Bs, 0, none⟩ = some (.slice ao N cap)) := by rw [hN]; exact hBs
  have HC : Hid (∀ W', Kp W W' → ∀ i v, m.vs[i]? = some v → ∃ b, ao = some ⟨b, 0, none⟩ ∧ W'.cell? ⟨b, i, none⟩ = some (.pointer (some ⟨v.b, 0, none⟩))) := hc
  have HN : Hid (N = m.vs.length) := hN
  have H0 : Hid (J [] W) := h0
  have HY : Hid (∀ pre x W, J pre W → pre.length < m.vs.length → YieldAt F (n - 1) Tryd.prog l (encC x) W fun e W' =>
      (e = .returned (.bool true) ∧ J (pre ++ [x]) W' ∧ Kp W W') ∨ (e = .returned (.bool false) ∧ Jx (pre ++ [x]) W')) := hY
  clear hBs hc hN h0 hY
  gi_wp2
  gi_loopw [3] (fun i wr => ∃ (t : Nat) (pre : List (Com m)), Hid (t ≤ N ∧ pre.map (fun x => x.1.2) = m.vs.reverse.take t ∧ J pre wr ∧ Kp W wr) ∧ i = .int .i64 ((N : Int) - 1 - (t : Int)))
    (fun i _ => ((intOf i) + 1).toNat)
  case atStart => exact ⟨0, [], ⟨Nat.zero_le _, rfl, H0.out, hKr _⟩, by simp⟩
  case round =>
    obtain ⟨t, pre, HK, rfl⟩ := hrel
    have ht : t ≤ N := HK.out.1
    have hbx := HBS.out wr HK.out.2.2.2
    by_cases hlt : t < N
    · obtain ⟨k, hk⟩ : ∃ k, k = N - 1 - t := ⟨_, rfl⟩
      have hkN : k < m.vs.length := by have := HN.out; omega
      have hij : (N : Int) - 1 - (t : Int) = (k : Int) := by omega
      rw [hij]
      obtain ⟨b, hao, hcell⟩ := HC.out wr HK.out.2.2.2 k _ (List.getElem?_eq_getElem hkN)
      subst hao
      obtain ⟨x, hx⟩ : ∃ x : Com m, x = ⟨(k, m.vs[k]), List.getElem_mem hkN⟩ := ⟨_, rfl⟩
      have hlen : pre.length = t := by
        have h1 := congrArg List.length HK.out.2.1
        rw [List.length_map, List.length_take, List.length_reverse] at h1
        have := HN.out
        omega
      obtain ⟨fn, tmps, assign, body, hy, hR⟩ := HY.out pre x wr HK.out.2.2.1 (by have := HN.out; omega)
      have HNXT : Hid (∀ W3, J (pre ++ [x]) W3 → Kp wr W3 → t + 1 ≤ N ∧ (pre ++ [x]).map (fun x => x.1.2) = m.vs.reverse.take (t + 1) ∧ J (pre ++ [x]) W3 ∧ Kp W W3) := fun W3 h1 h2 => by
        refine ⟨by omega, ?_, h1, hKt HK.out.2.2.2 h2⟩
        have hg : m.vs.reverse[t]? = some m.vs[k] := by
          rw [List.getElem?_reverse (by have := HN.out; omega), ← List.getElem?_eq_getElem hkN]
          congr 1
          have := HN.out
          omega
        rw [List.map_append, HK.out.2.1, List.take_add_one, hg, hx]
        rfl
      have hxe : encC x = #[.int .i64 (k : Int), .pointer (some ⟨m.vs[k].b, 0, none⟩)] := by rw [hx]; rfl
      rw [hxe] at hy
      have hkb : (k : Int) < (N : Int) := by omega
      have hkb2 : k < N := by omega
      have HKE : Hid (k + 1 + t = N) := by show _ = _; omega
      clear hx hxe hij hk hlen
      generalize m.vs[k].b = vb at hy hcell
      gi_wp2
      refine hR.mono ?_
      rintro e W3 (⟨rfl, hJ3, hk3⟩ | ⟨rfl, hJx3⟩)
      · have HN3 := hid (HNXT.out W3 hJ3 hk3)
        gi_wp2
        go_roundw
        case rel => exact ⟨t + 1, pre ++ [x], HN3.out, by congr 1; have := HKE.out; omega⟩
        case measure => simp [intOf]
      · gi_wp2
        refine bodyPost_ret (results_none rfl _ _ _) rfl ?_
        exact ⟨⟨_, rfl⟩, .inr ⟨_, hJx3⟩⟩
    · obtain rfl : t = N := by omega
      have hij : ((t : Nat) : Int) - 1 - (t : Int) = -1 := by omega
      rw [hij]
      have HF : Hid (pre.map (fun x => x.1.2) = m.vs.reverse ∧ J pre wr) := ⟨by
        have h1 := HK.out.2.1
        rw [List.take_of_length_le (by rw [List.length_reverse]; have := HN.out; omega)] at h1
        exact h1, HK.out.2.2.1⟩
      clear hij hlt
      gi_wp2
      go_end0
      exact ⟨⟨_, rfl⟩, .inl ⟨pre, HF.out⟩⟩

set_option maxHeartbeats 1000000 in
theorem bw_in (F : Fence) (n : Nat) (hf : F.fn 30) (hro : F.round = none) (a : Option Addr) (len cap : Nat) (w : World) :
    CallsIn F n Tryd.prog 30 #[.slice a len cap] w fun e w' => e = .returned (.func (.func 38) #[] #[.pointer (some ⟨w.heap.size, 0, none⟩)]) ∧ w' = w.alloc (.cells #[.slice a len cap] 39) := by
  refine callsIn_of_wp Tryd.func30 rfl hf ?_ hro
  simp only [Tryd.ntmps30, List.size_toArray, List.length_cons, List.length_nil, Nat.reduceAdd, Nat.reduceSub, Array.replicate_succ, Array.replicate_zero, List.push_toArray, List.append_toArray, List.nil_append, List.cons_append]
  gi_wp2
  go_ret
  exact ⟨rfl, rfl⟩
/-- What a round keeps: all below n₀, and the iterator's own box. -/
def KB (n₀ Bs : Nat) (A B : World) : Prop := Below n₀ A B ∧ B.heap[Bs]? = A.heap[Bs]?
theorem KB.trans {n₀ Bs : Nat} {A B C : World} (h : KB n₀ Bs A B) (h2 : KB n₀ Bs B C) : KB n₀ Bs A C := ⟨h.1.trans h2.1, h2.2.trans h.2⟩
/-- The key's entries, newest first; or a part of them. -/
theorem bw_stops (F : Fence) (n : Nat) (hf : F.fn 38) (hro : F.round = none) (hn : 1 ≤ n) (Bs n₀ : Nat) {m : Nd} {w : World} (hm : NdAt w m) (hvl : m.vs.length ≤ 100000) (hBs : w.cell? ⟨Bs, 0, none⟩ = some m.rv) (h1 : Bs < w.heap.size) (h2 : ∀ k, Ows m.rv k → k < n₀) (h3 : n₀ ≤ w.heap.size) :
    SeqStopsK F n Tryd.prog 38 #[.pointer (some ⟨Bs, 0, none⟩)] (encC (m := m)) (KB n₀ Bs) (fun ys => ys.map (fun x => x.1.2) = m.vs.reverse) (fun _ => True) m.vs.length w := fun l J Jx W hW _ _ hY h0 => by
  obtain ⟨ao, cap, hrv, q1, q2, q3, q4⟩ := hm.rowv
  have hb0 : KB n₀ Bs w W := ⟨hW.mono h3, hW.block Bs h1⟩
  refine (bw1_in F n hf hro hn l Bs (KB n₀ Bs) (fun A => ⟨Below.refl _ _, rfl⟩) KB.trans m ao cap hvl J Jx hY W (fun W' hb => ?_) (fun W' hb i v hv => ?_) h0).mono ?_
  · rw [← hrv]
    exact (World.cell?_of_block (a := ⟨Bs, 0, none⟩) (hb0.trans hb).2).trans hBs
  · obtain ⟨b, e, hc⟩ := q4 i v hv
    refine ⟨b, e, ((hb0.trans hb).1.cell (p := ⟨b, i, none⟩) (h2 b (by rw [hrv, e]; rfl))).trans hc⟩
  · rintro e W' ⟨he, ⟨ys, hy, hj⟩ | ⟨pre, hj⟩⟩
    · exact ⟨he, .inl ⟨ys, hy, hj⟩⟩
    · exact ⟨he, .inr ⟨pre, trivial, hj⟩⟩
end Go.Proofs.YtaefddnmldbgiabDoor
