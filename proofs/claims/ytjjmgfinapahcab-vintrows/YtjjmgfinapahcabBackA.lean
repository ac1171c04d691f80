/- What Put and Length make is what Take and TakeLength take, whatever stands behind it; cut off it is short. -/
import Derived.Test.YtjjmgfinapahcabGrows
import Derived.Test.YtjjmgfinapahcabLens
namespace Go.Proofs.Ytjjmgfinapahcab
open Go.RowKit
set_option linter.unusedVariables false

theorem put_made (n : Nat) (w : World) (hn : n < 18446744073709551616) : Calls Try.prog 6 #[.slice none 0 0, .int .u64 (n : Int)] w fun e w' => Made w w' e (uv n) := by
  have h := put_any none 0 0 n (fun _ => 0) w (fun k hk => by cases hk) (fun _ => ⟨rfl, rfl⟩) (by omega) hn
  simp only [show bs (fun _ => 0) 0 = [] from rfl, List.nil_append] at h
  exact h.mono fun e w' h => made_row (okb_uv n) h

theorem Byt.head {w : World} {ao : Option Addr} {len k : Nat} {X : Nat → Nat} (h : Byt w ao len X) (hk : k ≤ len) : Byt w ao k X := fun j hj => h j (by omega)

theorem take_back {B : Nat} {w : World} {v : Value} {n : Nat} {ys : List Int} (hn : n < 18446744073709551616) (hr : Row B w v (uv n ++ ys)) (hok : Okb ys) :
    Calls Try.prog 8 #[v] w fun e w' => e = .returned (.tuple #[.int .u64 (n : Int), .int .i64 ((uv n).length : Int), .int .i64 0]) ∧ w' = w := by
  obtain ⟨ao, cap, rfl, _, q2, q3, q4⟩ := hr.byt ((okb_uv n).app hok)
  have hb : Begins (xof (uv n ++ ys)) (uv n) := begins_xof ((okb_uv n).app hok)
  have hl : (uv n).length ≤ (uv n ++ ys).length := by simp
  have h := take_any ao _ cap _ _ w q4 q2 q3 (uv_end hb hl)
  rw [takeV_uv hn hb hl] at h
  exact h
theorem take_cut {w : World} {ao : Option Addr} {n k cap : Nat} (hk : k < (uv n).length) (hb : Byt w ao (uv n).length (xof (uv n))) (hl : (uv n).length ≤ cap) (hc : cap ≤ maxLen) :
    Calls Try.prog 8 #[.slice ao k cap] w fun e w' => e = .returned (.tuple #[.int .u64 0, .int .i64 0, .int .i64 5]) ∧ w' = w := by
  obtain ⟨h1, h2⟩ := takeV_cut (begins_xof' (okb_uv n)) hk
  have h := take_any ao k cap k _ w (hb.head (by omega)) (by omega) hc h1
  rw [h2] at h
  exact h
theorem uv_len4 {n : Nat} (h : n ≤ 268435455) : (uv n).length ≤ 4 := by
  have e : (128 : Nat) ^ 4 = 268435456 := by decide
  exact uv_len_le 4 n (by decide) (by omega)
theorem tlen_back {B : Nat} {w : World} {v : Value} {n : Nat} {ys : List Int} (hn : n ≤ 268435455) (hr : Row B w v (uv n ++ ys)) (hok : Okb ys) :
    Calls Try.prog 11 #[v] w fun e w' => e = .returned (.tuple #[.int .i64 (n : Int), .int .i64 ((uv n).length : Int), .int .i64 0]) ∧ w' = w := by
  obtain ⟨ao, cap, rfl, _, q2, q3, q4⟩ := hr.byt ((okb_uv n).app hok)
  have hb : Begins (xof (uv n ++ ys)) (uv n) := begins_xof ((okb_uv n).app hok)
  have h4 := uv_len4 hn
  have hp := uv_pos n
  have hl : (uv n).length ≤ (uv n ++ ys).length := by simp
  have h := tlen_any ao _ cap _ _ w q4 q2 (uv_end hb (by omega : (uv n).length ≤ min (uv n ++ ys).length 4))
  have e : tlenV (xof (uv n ++ ys)) (uv n ++ ys).length ((uv n).length - 1) = .tuple #[.int .i64 (n : Int), .int .i64 ((uv n).length : Int), .int .i64 0] := by
    unfold tlenV
    rw [if_pos (by omega), uv_val hb]
    congr 5
    omega
  rw [e] at h
  exact h
theorem tlen_cut {w : World} {ao : Option Addr} {n k cap : Nat} (hn : n ≤ 268435455) (hk : k < (uv n).length) (hb : Byt w ao (uv n).length (xof (uv n))) (hl : (uv n).length ≤ cap) :
    Calls Try.prog 11 #[.slice ao k cap] w fun e w' => e = .returned (.tuple #[.int .i64 0, .int .i64 0, .int .i64 5]) ∧ w' = w := by
  obtain ⟨h1, h2⟩ := takeV_cut (begins_xof' (okb_uv n)) hk
  have h4 := uv_len4 hn
  have h := tlen_any ao k cap k _ w (hb.head (by omega)) (by omega) (by rw [Nat.min_eq_left (by omega)]; exact h1)
  have e : tlenV (xof (uv n)) k k = .tuple #[.int .i64 0, .int .i64 0, .int .i64 5] := by
    unfold tlenV
    rw [if_neg (by omega), if_pos (by omega)]
  rw [e] at h
  exact h

/-- A new empty row, and what is appended to it. -/
theorem row_empty (w : World) : Row w.heap.size (w.alloc (.cells #[] 5)) (.slice (some ⟨w.heap.size, 0, none⟩) 0 0) [] :=
  World.ownsRow_made w #[] 0 (Nat.le_refl _) (Nat.zero_le _) rfl
theorem wpList_one {W : World} {ops : Array Oper} {rest : List Oper} {o : Oper} {a : Act} {Q : Exit → Act → World → Prop} {s x : Operand} {po : Option Addr} {P : List Int} {pc : Nat} (hgd : o.guard = none)
    (ho : o.op = .call { callee := .builtin .append, args := #[s, x], argTypes := #[24, 24] }) (hs : a.eval s = .slice (some ⟨W.heap.size, 0, none⟩) 0 0) (hx : a.eval x = .slice po P.length pc)
    (H : Hid (Byt W po P.length (xof P) ∧ (po = none → P.length = 0 ∧ pc = 0) ∧ Okb P ∧ P.length ≤ 140737488351232))
    (h : ∀ v' w', Row W.heap.size w' v' P → Below W.heap.size W w' → wpList Try.prog ops Q rest (a.put o.dst v') w') : wpList Try.prog ops Q (o :: rest) a (W.alloc (.cells #[] 5)) := by
  obtain ⟨h1, h2, h3, h4⟩ := H.out
  have hB : Below W.heap.size W (W.alloc (.cells #[] 5)) := (Below.refl _ _).alloc (Nat.le_refl _) _
  refine wpList_app hgd s x ho W.heap.size _ [] hs (row_empty W) po P.length pc (xof P) hx h2 (h1.later hB) (by simp; omega) hB.size fun v' w' q1 q2 q3 => h v' w' ?_ ?_
  · rw [bs_xof h3, List.nil_append] at q1
    exact q1
  · exact hB.trans (grown_below (row_empty W) q2 hB.size)
theorem wpList_two {W w : World} {ops : Array Oper} {rest : List Oper} {o : Oper} {a : Act} {Q : Exit → Act → World → Prop} {s x : Operand} {v : Value} {P : List Int} {so : Option Addr} {ls cs : Nat} {S : Nat → Nat} (hgd : o.guard = none)
    (ho : o.op = .call { callee := .builtin .append, args := #[s, x], argTypes := #[24, 24] }) (hs : a.eval s = v) (hx : a.eval x = .slice so ls cs) (hr : Row W.heap.size w v P) (hB : Below W.heap.size W w)
    (H : Hid (Byt W so ls S ∧ (so = none → ls = 0 ∧ cs = 0) ∧ P.length + ls ≤ 140737488355328))
    (h : ∀ v' w', Row W.heap.size w' v' (P ++ bs S ls) → Below W.heap.size W w' → wpList Try.prog ops Q rest (a.put o.dst v') w') : wpList Try.prog ops Q (o :: rest) a w := by
  obtain ⟨h1, h2, h3⟩ := H.out
  exact wpList_app hgd s x ho W.heap.size _ P hs hr so ls cs S hx h2 (h1.later hB) h3 hB.size fun v' w' q1 q2 q3 => h v' w' q1 (hB.trans (grown_below hr q2 hB.size))
end Go.Proofs.Ytjjmgfinapahcab
