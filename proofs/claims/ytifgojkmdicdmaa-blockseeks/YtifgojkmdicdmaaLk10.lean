/- The landed block, on lists: restarts, and the search from one on. -/
import Derived.Test.YtifgojkmdicdmaaLk9
import Derived.Test.YtifgojkmdicdmaaBklaw
namespace Go.Proofs.Ytifgojkmdicdmaa
set_option linter.unusedVariables false
set_option linter.unusedSimpArgs false

theorem eig_eq : ∀ (l : List EntV) (j : Nat), eig j l = (j + l.length + 7) / 8 - (j + 7) / 8
  | [], j => by simp [eig]
  | e :: r, j => by
    unfold eig
    rw [eig_eq r (j + 1), List.length_cons]
    split <;> omega
theorem enEs_app : ∀ (a : List EntV) (i : Nat) (prev : List Int) (b : List EntV), enEs i prev (a ++ b) = enEs i prev a ++ enEs (i + a.length) (lastK prev a) b
  | [], i, prev, b => by simp [enEs, lastK]
  | x :: r, i, prev, b => by
    show enE _ x ++ enEs (i + 1) x.key (r ++ b) = (enE _ x ++ enEs (i + 1) x.key r) ++ _
    rw [enEs_app r (i + 1) x.key b, List.append_assoc, List.length_cons, show i + 1 + r.length = i + (r.length + 1) by omega]
    rfl
theorem enTl_app : ∀ (a : List EntV) (i pos : Nat) (prev : List Int) (b : List EntV), enTl i pos prev (a ++ b) = enTl i pos prev a ++ enTl (i + a.length) (pos + (enEs i prev a).length) (lastK prev a) b
  | [], i, pos, prev, b => by simp [enTl, enEs, lastK]
  | x :: r, i, pos, prev, b => by
    show _ ++ enTl (i + 1) (pos + (enE (shI i x.key prev) x).length) x.key (r ++ b) = (_ ++ enTl (i + 1) (pos + (enE (shI i x.key prev) x).length) x.key r) ++ _
    rw [enTl_app r (i + 1) _ x.key b, List.append_assoc, List.length_cons, show i + 1 + r.length = i + (r.length + 1) by omega]
    show _ = _ ++ (_ ++ enTl _ (pos + (enE (shI i x.key prev) x ++ enEs (i + 1) x.key r).length) _ b)
    rw [List.length_append, ← Nat.add_assoc pos]
    rfl
/-- A block's parts. -/
theorem blk_parts {l : List EntV} (h1 : 1 ≤ l.length) (h4 : l.length ≤ 400) : lastN (blkB l) = eig 0 l ∧ bodyN (blkB l) = enEs 0 [] l ∧ plcN (blkB l) = enTl 0 0 [] l := by
  have hT := enTl_len l 0 0 []
  have he1 := eig_le l 0
  have he2 := eig_pos h1
  have hlen : (blkB l).length = (enEs 0 [] l).length + 4 * eig 0 l + 4 := by
    unfold blkB
    rw [List.length_append, List.length_append, fx_length, hT]
    omega
  have hlast : lastN (blkB l) = eig 0 l := by
    unfold lastN
    have e1 : (blkB l).drop ((blkB l).length - 4) = fx (eig 0 l) 4 := by
      rw [hlen]
      unfold blkB
      rw [hT, show 4 * eig 0 l / 4 = eig 0 l by omega, ← List.append_assoc]
      exact List.drop_left' (by rw [List.length_append, hT]; omega)
    rw [e1]
    have := fv_four (n := eig 0 l) (by omega) [] (fun x hx => by cases hx)
    simpa using this
  refine ⟨hlast, ?_, ?_⟩
  · unfold bodyN
    rw [hlast, hlen, show (enEs 0 [] l).length + 4 * eig 0 l + 4 - 4 - 4 * eig 0 l = (enEs 0 [] l).length by omega]
    unfold blkB
    exact List.take_left' rfl
  · unfold plcN
    rw [hlast, hlen, show (enEs 0 [] l).length + 4 * eig 0 l + 4 - 4 - 4 * eig 0 l = (enEs 0 [] l).length by omega]
    unfold blkB
    rw [List.drop_left' rfl]
    exact List.take_left' hT
/-- Where a restart begins. -/
def offK (l : List EntV) (i : Nat) : Nat := (enEs 0 [] (l.take (8 * i))).length
theorem plc_at {l : List EntV} {i : Nat} (hi : 8 * i < l.length) : ∃ t, Okb t ∧ (enTl 0 0 [] l).drop (4 * i) = fx (offK l i) 4 ++ t := by
  have e := enTl_app (l.take (8 * i)) 0 0 [] (l.drop (8 * i))
  rw [List.take_append_drop, List.length_take, Nat.min_eq_left (by omega), Nat.zero_add, Nat.zero_add] at e
  have hl : (enTl 0 0 [] (l.take (8 * i))).length = 4 * i := by
    rw [enTl_len, eig_eq, List.length_take]
    omega
  obtain ⟨x, r, hx⟩ : ∃ x r, l.drop (8 * i) = x :: r := by
    cases h : l.drop (8 * i) with
    | nil =>
      have := congrArg List.length h
      rw [List.length_drop] at this
      simp at this
      omega
    | cons x r => exact ⟨x, r, rfl⟩
  refine ⟨_, okb_enTl (l := r) (i := 8 * i + 1) (pos := offK l i + (enE (shI (8 * i) x.key (lastK [] (l.take (8 * i)))) x).length) (prev := x.key), ?_⟩
  rw [e, List.drop_left' hl, hx]
  show (if 8 * i % 8 = 0 then fx (offK l i) 4 else []) ++ enTl (8 * i + 1) (offK l i + (enE (shI (8 * i) x.key (lastK [] (l.take (8 * i)))) x).length) x.key r = _
  rw [if_pos (by omega)]
theorem body_at {l : List EntV} {i : Nat} (hi : 8 * i ≤ l.length) : (enEs 0 [] l).drop (offK l i) = enEs (8 * i) (lastK [] (l.take (8 * i))) (l.drop (8 * i)) := by
  have e := enEs_app (l.take (8 * i)) 0 [] (l.drop (8 * i))
  rw [List.take_append_drop, List.length_take, Nat.min_eq_left (by omega), Nat.zero_add] at e
  rw [e]
  exact List.drop_left' rfl
theorem off_le {l : List EntV} {i : Nat} : offK l i ≤ (enEs 0 [] l).length := by
  have e := enEs_app (l.take (8 * i)) 0 [] (l.drop (8 * i))
  rw [List.take_append_drop] at e
  rw [e, List.length_append]
  unfold offK
  omega
/-- An entry is taken as it was put. -/
theorem tE_en {prev : List Int} {e : EntV} {n : Nat} {t : List Int} (hn : n ≤ prev.length) (hk : n ≤ e.key.length) (hp : prev.length ≤ 512) (hsh : prev.take n = e.key.take n) (h : mayE e = true) (ho : OkE e) (ht : Okb t) : tE prev (enE n e ++ t) = (0, e, t) := by
  obtain ⟨h1, h2⟩ := deE1_en hn hk hp hsh h ho ht
  obtain ⟨a1, a2⟩ := tE_de hp h1
  rw [h2] at a1 a2
  have h0 := a1.2 rfl
  obtain ⟨b1, b2⟩ := a2 h0
  simp only [Prod.mk.injEq] at b2
  refine Prod.ext h0 (Prod.ext b1 b2.1.symm)
theorem tE_next {o : List Int} {p : List Int} {j : Nat} {e : EntV} {r : List EntV} (hj : j % 8 = 0 ∨ o = p) (hp : o.length ≤ 512) (h : mayE e = true) (ho : OkE e) (hr : ∀ x ∈ r, OkE x) : tE o (enEs j p (e :: r)) = (0, e, enEs (j + 1) e.key r) := by
  show tE o (enE (shI j e.key p) e ++ enEs (j + 1) e.key r) = _
  have ht := okb_enEs (i := j + 1) (prev := e.key) hr
  rcases hj with q | q
  · have hz : shI j e.key p = 0 := by unfold shI; rw [if_pos q]
    rw [hz]
    exact tE_en (Nat.zero_le _) (Nat.zero_le _) hp (by simp) h ho ht
  · subst q
    have hs := shI_ok j e.key o
    exact tE_en hs.1 hs.2.1 hp hs.2.2 h ho ht
theorem skE_ahK (l : List EntV) (key : List Int) (s : Int) : skE l key s = l.find? fun e => !ahK e key s := by
  unfold skE
  congr 1
  funext e
  unfold ahK
  have := cmp_vals e.key key
  rw [Bool.eq_iff_iff]
  simp only [decide_eq_true_eq, Bool.not_eq_true', decide_eq_false_iff_not]
  omega
theorem ahK_before {a b : EntV} {key : List Int} {s : Int} (h : ahead a b < 0) (hb : ahK b key s = true) : ahK a key s = true := by
  have h1 := ahK_ahead b ⟨key, s, false, 0, []⟩
  have h2 := ahK_ahead a ⟨key, s, false, 0, []⟩
  exact h2.2 (ahead_trans h (h1.1 hb))
theorem skE_from {l : List EntV} {key : List Int} {s : Int} {k : Nat} (ho : ordE l) (hk : k < l.length) (h : ahK l[k] key s = true) : skE l key s = skE (l.drop k) key s := by
  rw [skE_ahK, skE_ahK]
  have e : l = l.take k ++ l.drop k := (List.take_append_drop k l).symm
  conv => lhs; rw [e]
  rw [List.find?_append]
  have hn : (l.take k).find? (fun e => !ahK e key s) = none := by
    rw [List.find?_eq_none]
    intro x hx
    obtain ⟨j, hj, rfl⟩ := List.getElem_of_mem hx
    rw [List.getElem_take]
    have hjk : j < k := by rw [List.length_take] at hj; omega
    have hp : ahead l[j] l[k] < 0 := List.pairwise_iff_getElem.1 ho j k (by omega) hk hjk
    rw [ahK_before hp h]
    decide
  rw [hn]
  rfl
end Go.Proofs.Ytifgojkmdicdmaa
