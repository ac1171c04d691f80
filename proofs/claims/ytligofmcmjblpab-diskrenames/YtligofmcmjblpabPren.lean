/- The switch of a file. -/
import Derived.Test.YtligofmcmjblpabPpie
namespace Go.Proofs.Ytligofmcmjblpab
open Go.RowKit
set_option linter.unusedVariables false
set_option linter.unusedSimpArgs false

def sC : ByteArray := ⟨#[99]⟩
def sT : ByteArray := ⟨#[116]⟩
def mk (d : List Ent) (ws : List (List Ent)) (fl : Nat → List Int × Nat) (nx : Nat) (c : Cn) : DS := { room := 1048576, dir := d, was := ws, fl := fl, nx := nx, c := c }
theorem may_C : mayN sC = true := by decide +kernel
theorem may_T : mayN sT = true := by decide +kernel
theorem eCC : (sC.toList == sC.toList) = true := by decide +kernel
theorem eCT : (sC.toList == sT.toList) = false := by decide +kernel
theorem eTT : (sT.toList == sT.toList) = true := by decide +kernel
theorem lCT : Op.bytesLess sC.toList sT.toList = true := by decide +kernel
theorem lCC : Op.bytesLess sC.toList sC.toList = false := by decide +kernel
theorem fnd_nC : fnd [] sC = none := rfl
theorem fnd_CC (i : Nat) (r : List Ent) : fnd ((sC, i) :: r) sC = some i := by
  simp only [fnd, eCC, if_true]
theorem fnd_CT (i : Nat) : fnd [(sC, i)] sT = none := by
  simp only [fnd, eCT, Bool.false_eq_true, if_false]
theorem fnd_CTT (i j : Nat) : fnd [(sC, i), (sT, j)] sT = some j := by
  simp only [fnd, eCT, eTT, Bool.false_eq_true, if_false, if_true]
theorem pt_C (i : Nat) : pt [] sC i = [(sC, i)] := rfl
theorem pt_CT (i j : Nat) : pt [(sC, i)] sT j = [(sC, i), (sT, j)] := by
  simp only [pt, lCT, if_true]
theorem drp_CT (i j : Nat) : drp [(sC, i), (sT, j)] sT = [(sC, i)] := by
  simp only [drp, List.filter_cons, List.filter_nil, eCT, eTT, Bool.not_false, Bool.not_true, if_true, Bool.false_eq_true, if_false]
theorem pt_CC (i j : Nat) : pt [(sC, i)] sC j = [(sC, j)] := by
  simp only [pt, lCC, drp, List.filter_cons, List.filter_nil, eCC, Bool.not_true, Bool.false_eq_true, if_false]
section
variable {fl : Nat → List Int × Nat} {c : Cn}
theorem n_create (h : c.ce = 0) : (mk [] [[]] fl 0 c).create sC = (endE 0 c.cl, mk [(sC, 0)] [[], [(sC, 0)]] (upd fl 0 ([], 0)) 1 c.cc) := by
  unfold DS.create mk
  simp only [h, may_C, fnd_nC, ne_eq, not_true_eq_false, if_false, Option.isSome_none, Bool.false_eq_true, Bool.true_eq_false, pt_C]
  rfl
theorem n_append (h : c.ce = 0) (ws : List (List Ent)) (b : List Int) (hf : (fl 0).1 = []) (hb : b.length ≤ 2000) : (mk [(sC, 0)] ws fl 1 c).append sC b = (endE 0 c.cl, mk [(sC, 0)] ws (upd fl 0 (b, (fl 0).2)) 1 c.cc) := by
  unfold DS.append mk
  simp only [h, fnd_CC, ne_eq, not_true_eq_false, if_false, hf]
  rw [if_neg (by unfold DS.used; simp [used, hf]; omega)]
  simp only [List.nil_append]
  rfl
theorem n_sync (h : c.ce = 0) (hl : c.cl = false) (ws : List (List Ent)) : (mk [(sC, 0)] ws fl 1 c).sync sC = (0, mk [(sC, 0)] ws (upd fl 0 ((fl 0).1, (fl 0).1.length)) 1 c.cc) := by
  unfold DS.sync mk
  simp only [h, hl, fnd_CC, ne_eq, not_true_eq_false, false_or, if_false, Bool.false_eq_true]
  rfl
theorem n_syncDir (h : c.ce = 0) (hl : c.cl = false) (d : List Ent) (ws : List (List Ent)) (nx : Nat) : (mk d ws fl nx c).syncDir = (0, mk d [d] fl nx c.cc) := by
  unfold DS.syncDir mk
  simp only [h, hl, ne_eq, not_true_eq_false, false_or, if_false, Bool.false_eq_true]
  rfl
theorem n_syncDirD (h : c.cl = true) (h0 : c.ce = 0) (d : List Ent) (ws : List (List Ent)) (nx : Nat) : (mk d ws fl nx c).syncDir = (10, mk d ws fl nx c.cc) := by
  unfold DS.syncDir mk
  simp only [h, h0, or_true, if_true]
  rfl
theorem t_create (h : c.ce = 0) : (mk [(sC, 0)] [[(sC, 0)]] fl 1 c).create sT = (endE 0 c.cl, mk [(sC, 0), (sT, 1)] [[(sC, 0)], [(sC, 0), (sT, 1)]] (upd fl 1 ([], 0)) 2 c.cc) := by
  unfold DS.create mk
  simp only [h, may_T, fnd_CT, ne_eq, not_true_eq_false, if_false, Option.isSome_none, Bool.false_eq_true, Bool.true_eq_false, pt_CT]
  rfl
theorem t_append (h : c.ce = 0) (ws : List (List Ent)) (b : List Int) (hf : (fl 1).1 = []) (h0 : (fl 0).1.length ≤ 2000) (hb : b.length ≤ 2000) : (mk [(sC, 0), (sT, 1)] ws fl 2 c).append sT b = (endE 0 c.cl, mk [(sC, 0), (sT, 1)] ws (upd fl 1 (b, (fl 1).2)) 2 c.cc) := by
  unfold DS.append mk
  simp only [h, fnd_CTT, ne_eq, not_true_eq_false, if_false, hf]
  rw [if_neg (by unfold DS.used; simp [used, hf]; omega)]
  simp only [List.nil_append]
  rfl
theorem t_sync (h : c.ce = 0) (hl : c.cl = false) (ws : List (List Ent)) : (mk [(sC, 0), (sT, 1)] ws fl 2 c).sync sT = (0, mk [(sC, 0), (sT, 1)] ws (upd fl 1 ((fl 1).1, (fl 1).1.length)) 2 c.cc) := by
  unfold DS.sync mk
  simp only [h, hl, fnd_CTT, ne_eq, not_true_eq_false, false_or, if_false, Bool.false_eq_true]
  rfl
theorem t_syncD (h : c.cl = true) (h0 : c.ce = 0) (ws : List (List Ent)) : (mk [(sC, 0), (sT, 1)] ws fl 2 c).sync sT = (10, mk [(sC, 0), (sT, 1)] ws fl 2 c.cc) := by
  unfold DS.sync mk
  simp only [h, h0, or_true, if_true]
  rfl
theorem t_rename (h : c.ce = 0) (ws : List (List Ent)) : (mk [(sC, 0), (sT, 1)] ws fl 2 c).rename sT sC = (endE 0 c.cl, mk [(sC, 1)] (ws ++ [[(sC, 1)]]) fl 2 c.cc) := by
  have hne : (sT.toList == sC.toList) = false := by decide +kernel
  unfold DS.rename mk
  simp only [h, fnd_CTT, may_C, hne, ne_eq, not_true_eq_false, if_false, Bool.false_eq_true, Bool.true_eq_false, drp_CT, pt_CC]
  rfl
end
/-- The first name that was kept, whose bytes are all sure, is read as it was. -/
theorem crash_first {σ : DS} {ps : List Int} {s : ByteArray} {i : Nat} {r : List Ent} (h : σ.kept ps = (s, i) :: r) (hs : (σ.fl i).2 = (σ.fl i).1.length) : (σ.crash ps).read s = (some (σ.fl i).1, 0) := by
  have hd : (σ.crash ps).dir = renK σ.nx 0 ((s, i) :: r) := by
    show (keeps σ.fl ps σ.nx 0 (σ.kept ps) σ.fl).1 = _
    rw [h, keeps_fst]
  have hf : (σ.crash ps).fl (σ.nx + 0) = fileQ σ.fl ps (s, i) 0 := by
    show (keeps σ.fl ps σ.nx 0 (σ.kept ps) σ.fl).2 (σ.nx + 0) = _
    rw [h]
    exact keeps_at σ.fl ps σ.nx ((s, i) :: r) 0 σ.fl 0 (s, i) rfl
  have hfn : fnd (σ.crash ps).dir s = some (σ.nx + 0) := by
    rw [hd, renK, fnd, if_pos (by simp)]
  have ho : (σ.crash ps).c.off = false := rfl
  unfold DS.read
  rw [ho, hfn]
  simp only [Bool.false_eq_true, if_false, hf]
  unfold fileQ
  simp only
  have hp := pick_le ps (0 + 1) ((σ.fl i).1.length - (σ.fl i).2)
  rw [List.take_of_length_le (by omega)]
/-- What is read behind every crash. -/
def Fin (O Y : List Int) (b : Bool) (σ : DS) : Prop := ∀ ps, ((σ.crash ps).read sC = (some Y, 0)) ∨ (b = false ∧ (σ.crash ps).read sC = (some O, 0))
theorem kept1 (d : List Ent) (fl : Nat → List Int × Nat) (nx : Nat) (c : Cn) (l : List Ent) (ps : List Int) : (mk d [l] fl nx c).kept ps = l := by
  unfold DS.kept mk
  have := pick_le ps 0 0
  simp only [List.length_singleton, Nat.sub_self]
  rw [show pick ps 0 0 = 0 by omega]
  rfl
theorem kept2 (d : List Ent) (fl : Nat → List Int × Nat) (nx : Nat) (c : Cn) (l m : List Ent) (ps : List Int) : (mk d [l, m] fl nx c).kept ps = l ∨ (mk d [l, m] fl nx c).kept ps = m := by
  unfold DS.kept mk
  have := pick_le ps 0 1
  show [l, m].getD (pick ps 0 1) [] = l ∨ [l, m].getD (pick ps 0 1) [] = m
  have h : pick ps 0 1 = 0 ∨ pick ps 0 1 = 1 := by omega
  rcases h with h | h <;> rw [h]
  · exact .inl rfl
  · exact .inr rfl
theorem kept3 (d : List Ent) (fl : Nat → List Int × Nat) (nx : Nat) (c : Cn) (l m n : List Ent) (ps : List Int) : (mk d [l, m, n] fl nx c).kept ps = l ∨ (mk d [l, m, n] fl nx c).kept ps = m ∨ (mk d [l, m, n] fl nx c).kept ps = n := by
  unfold DS.kept mk
  have := pick_le ps 0 2
  show [l, m, n].getD (pick ps 0 2) [] = l ∨ [l, m, n].getD (pick ps 0 2) [] = m ∨ [l, m, n].getD (pick ps 0 2) [] = n
  have h : pick ps 0 2 = 0 ∨ pick ps 0 2 = 1 ∨ pick ps 0 2 = 2 := by omega
  rcases h with h | h | h <;> rw [h]
  · exact .inl rfl
  · exact .inr (.inl rfl)
  · exact .inr (.inr rfl)
section
variable {fl : Nat → List Int × Nat} {c : Cn} {O Y : List Int} {d : List Ent} {nx : Nat}
theorem fin2 (h0 : fl 0 = (O, O.length)) (r : List Ent) (b : Bool) (hb : b = false) : Fin O Y b (mk d [[(sC, 0)], (sC, 0) :: r] fl nx c) := fun ps => by
  refine .inr ⟨hb, ?_⟩
  have hs : ((mk d [[(sC, 0)], (sC, 0) :: r] fl nx c).fl 0).2 = ((mk d [[(sC, 0)], (sC, 0) :: r] fl nx c).fl 0).1.length := by show (fl 0).2 = (fl 0).1.length; rw [h0]
  have he : ((mk d [[(sC, 0)], (sC, 0) :: r] fl nx c).fl 0).1 = O := by show (fl 0).1 = O; rw [h0]
  rcases kept2 d fl nx c [(sC, 0)] ((sC, 0) :: r) ps with h | h
  · rw [crash_first h hs, he]
  · rw [crash_first h hs, he]
theorem fin3 (h0 : fl 0 = (O, O.length)) (h1 : fl 1 = (Y, Y.length)) (r : List Ent) (b : Bool) (hb : b = false) : Fin O Y b (mk d [[(sC, 0)], (sC, 0) :: r, [(sC, 1)]] fl nx c) := fun ps => by
  have hs : ((mk d [[(sC, 0)], (sC, 0) :: r, [(sC, 1)]] fl nx c).fl 0).2 = ((mk d [[(sC, 0)], (sC, 0) :: r, [(sC, 1)]] fl nx c).fl 0).1.length := by show (fl 0).2 = (fl 0).1.length; rw [h0]
  have he : ((mk d [[(sC, 0)], (sC, 0) :: r, [(sC, 1)]] fl nx c).fl 0).1 = O := by show (fl 0).1 = O; rw [h0]
  have hs1 : ((mk d [[(sC, 0)], (sC, 0) :: r, [(sC, 1)]] fl nx c).fl 1).2 = ((mk d [[(sC, 0)], (sC, 0) :: r, [(sC, 1)]] fl nx c).fl 1).1.length := by show (fl 1).2 = (fl 1).1.length; rw [h1]
  have he1 : ((mk d [[(sC, 0)], (sC, 0) :: r, [(sC, 1)]] fl nx c).fl 1).1 = Y := by show (fl 1).1 = Y; rw [h1]
  rcases kept3 d fl nx c [(sC, 0)] ((sC, 0) :: r) [(sC, 1)] ps with h | h | h
  · exact .inr ⟨hb, by rw [crash_first h hs, he]⟩
  · exact .inr ⟨hb, by rw [crash_first h hs, he]⟩
  · exact .inl (by rw [crash_first h hs1, he1])
theorem fin1 (h1 : fl 1 = (Y, Y.length)) (b : Bool) : Fin O Y b (mk d [[(sC, 1)]] fl nx c) := fun ps => by
  have hs1 : ((mk d [[(sC, 1)]] fl nx c).fl 1).2 = ((mk d [[(sC, 1)]] fl nx c).fl 1).1.length := by show (fl 1).2 = (fl 1).1.length; rw [h1]
  have he1 : ((mk d [[(sC, 1)]] fl nx c).fl 1).1 = Y := by show (fl 1).1 = Y; rw [h1]
  exact .inl (by rw [crash_first (kept1 d fl nx c [(sC, 1)] ps) hs1, he1])
end
end Go.Proofs.Ytligofmcmjblpab
