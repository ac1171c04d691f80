import Derived.Test.YtligofmcmjblpaaGreatPk02
/- What a crash keeps. -/
namespace Go.Proofs.YtligofmcmjblpaaGreat
open Go.RowKit
set_option linter.unusedVariables false

def renK (nx : Nat) : Nat → List Ent → List Ent
  | _, [] => []
  | j, e :: r => (e.1, nx + j) :: renK nx (j + 1) r
theorem renK_len (nx : Nat) : ∀ (l : List Ent) (j : Nat), (renK nx j l).length = l.length
  | [], _ => rfl
  | e :: r, j => by simp only [renK, List.length_cons, renK_len nx r]
theorem renK_at (nx : Nat) : ∀ (l : List Ent) (j k : Nat) (e : Ent), l[k]? = some e → (renK nx j l)[k]? = some (e.1, nx + (j + k))
  | [], _, k, e, h => by simp at h
  | x :: r, j, 0, e, h => by simp at h; subst h; rfl
  | x :: r, j, k + 1, e, h => by
    have := renK_at nx r (j + 1) k e (by simpa using h)
    simp only [renK, List.getElem?_cons_succ, this]
    rw [show j + 1 + k = j + (k + 1) by omega]
theorem renK_mem (nx : Nat) (l : List Ent) (j : Nat) {e : Ent} (h : e ∈ renK nx j l) : nx + j ≤ e.2 ∧ e.2 < nx + j + l.length := by
  induction l generalizing j with
  | nil => simp [renK] at h
  | cons x r ih =>
    simp only [renK, List.mem_cons] at h
    simp only [List.length_cons]
    rcases h with rfl | h
    · constructor <;> simp
    · have := ih (j + 1) h
      omega
/-- The kth file's bytes that are kept. -/
def fileQ (fl : Nat → List Int × Nat) (ps : List Int) (e : Ent) (k : Nat) : List Int × Nat :=
  ((fl e.2).1.take ((fl e.2).2 + pick ps (k + 1) ((fl e.2).1.length - (fl e.2).2)), (fl e.2).2 + pick ps (k + 1) ((fl e.2).1.length - (fl e.2).2))
theorem keeps_fst (fl : Nat → List Int × Nat) (ps : List Int) (nx : Nat) : ∀ (l : List Ent) (k : Nat) (g : Nat → List Int × Nat), (keeps fl ps nx k l g).1 = renK nx k l
  | [], _, _ => rfl
  | e :: r, k, g => by simp only [keeps, renK, keeps_fst fl ps nx r]
theorem keeps_low (fl : Nat → List Int × Nat) (ps : List Int) (nx : Nat) : ∀ (l : List Ent) (k : Nat) (g : Nat → List Int × Nat) (i : Nat), i < nx + k → (keeps fl ps nx k l g).2 i = g i
  | [], _, _, _, _ => rfl
  | e :: r, k, g, i, h => by
    simp only [keeps]
    rw [keeps_low fl ps nx r (k + 1) _ i (by omega)]
    simp only [upd]
    rw [if_neg (by omega)]
theorem keeps_at (fl : Nat → List Int × Nat) (ps : List Int) (nx : Nat) : ∀ (l : List Ent) (k : Nat) (g : Nat → List Int × Nat) (j : Nat) (e : Ent), l[j]? = some e → (keeps fl ps nx k l g).2 (nx + (k + j)) = fileQ fl ps e (k + j)
  | [], _, _, j, e, h => by simp at h
  | x :: r, k, g, 0, e, h => by
    simp at h
    subst h
    simp only [keeps]
    rw [keeps_low fl ps nx r (k + 1) _ _ (by omega)]
    simp only [upd, Nat.add_zero, if_true]
    rfl
  | x :: r, k, g, j + 1, e, h => by
    simp only [keeps]
    have := keeps_at fl ps nx r (k + 1) (upd g (nx + k) ((fl x.2).1.take ((fl x.2).2 + pick ps (k + 1) ((fl x.2).1.length - (fl x.2).2)), (fl x.2).2 + pick ps (k + 1) ((fl x.2).1.length - (fl x.2).2))) j e (by simpa using h)
    rw [show k + 1 + j = k + (j + 1) by omega] at this
    exact this
theorem pick_le (ps : List Int) (k n : Nat) : pick ps k n ≤ n := by
  unfold pick
  split
  · exact Nat.zero_le _
  · exact Nat.le_of_lt_succ (Nat.mod_lt _ (by omega))
theorem kept_mem {σ : DS} (h : Inv σ) (ps : List Int) : σ.kept ps ∈ σ.was := by
  have h1 := pick_le ps 0 (σ.was.length - 1)
  have h2 := h.w1
  unfold DS.kept
  have h3 : pick ps 0 (σ.was.length - 1) < σ.was.length := by omega
  rw [List.getD_eq_getElem?_getD, List.getElem?_eq_getElem h3]
  exact List.getElem_mem h3
theorem drp_le (l : List Ent) (s : ByteArray) : (drp l s).length ≤ l.length := List.length_filter_le _ _
theorem pt_le (l : List Ent) (s : ByteArray) (i : Nat) : (pt l s i).length ≤ l.length + 1 := by
  induction l with
  | nil => exact Nat.le_refl _
  | cons e r ih =>
    rw [pt]
    split
    · simp only [List.length_cons]; omega
    · have := drp_le (e :: r) s
      simp only [List.length_cons] at this ⊢
      omega
end Go.Proofs.YtligofmcmjblpaaGreat

/- What holds of each state of a disk, and is kept by each call. -/
namespace Go.Proofs.YtligofmcmjblpaaGreat
open Go.RowKit
set_option linter.unusedVariables false

theorem z0 : (0 : Int) ≤ 0 := by decide
theorem zm : (0 : Int) ≤ 9223372036854775807 := by decide
theorem zk : (0 : Int) ≤ 1048576 := by decide
theorem Cn.cc_calls (c : Cn) : c.cc.calls = c.calls + 1 := by
  unfold Cn.cc
  split <;> rfl
theorem Cn.Ok.cc {c : Cn} (h : c.Ok) (hl : c.calls < 1048576) : c.cc.Ok := by
  obtain ⟨a1, a2, a3, a4, a5, a6, a7, a8⟩ := h
  unfold Cn.cc
  split
  · exact ⟨by show 0 ≤ c.calls + 1; omega, by show c.calls + 1 ≤ 1048576; omega, a3, a4, a5, a6, a7, a8⟩
  · refine ⟨by show 0 ≤ c.calls + 1; omega, by show c.calls + 1 ≤ 1048576; omega, ?_, ?_, ?_, ?_, ?_, ?_⟩
    · show 0 ≤ if 0 < c.fuse then c.fuse - 1 else c.fuse
      split <;> omega
    · show (if 0 < c.fuse then c.fuse - 1 else c.fuse) ≤ _
      split <;> omega
    · show 0 ≤ if 0 < c.fails ∧ 1 < c.wait then c.wait - 1 else c.wait
      split <;> omega
    · show (if 0 < c.fails ∧ 1 < c.wait then c.wait - 1 else c.wait) ≤ _
      split <;> omega
    · show 0 ≤ if 0 < c.fails ∧ ¬ 1 < c.wait then c.fails - 1 else c.fails
      split <;> omega
    · show (if 0 < c.fails ∧ ¬ 1 < c.wait then c.fails - 1 else c.fails) ≤ _
      split <;> omega
section
variable {σ : DS}
theorem Inv.cnt (h : Inv σ) (hl : σ.c.calls < 1048576) : Inv σ.cnt := by
  have e : σ.cnt.c.calls = σ.c.calls + 1 := Cn.cc_calls _
  refine ⟨h.ok.cc hl, ?_, ?_, h.w1, fun l hl => ?_, h.room, h.fl⟩
  · have := h.dl
    rw [e]
    show (σ.dir.length : Int) ≤ _
    omega
  · have := h.wl
    rw [e]
    show (σ.was.length : Int) ≤ _
    omega
  · have := h.wd l hl
    rw [e]
    omega
/-- The state but for the files. -/
theorem Inv.files (h : Inv σ) (fl : Nat → List Int × Nat) (hf : ∀ i, (fl i).1.length ≤ 4194304 ∧ (fl i).2 ≤ (fl i).1.length ∧ Okb (fl i).1) (n : Nat) : Inv { σ with fl := fl, nx := n } := ⟨h.ok, h.dl, h.wl, h.w1, h.wd, h.room, hf⟩
theorem Inv.upd (h : Inv σ) (i : Nat) (x : List Int × Nat) (hx : x.1.length ≤ 4194304 ∧ x.2 ≤ x.1.length ∧ Okb x.1) : ∀ j, ((YtligofmcmjblpaaGreat.upd σ.fl i x) j).1.length ≤ 4194304 ∧ ((YtligofmcmjblpaaGreat.upd σ.fl i x) j).2 ≤ ((YtligofmcmjblpaaGreat.upd σ.fl i x) j).1.length ∧ Okb ((YtligofmcmjblpaaGreat.upd σ.fl i x) j).1 := fun j => by
  unfold YtligofmcmjblpaaGreat.upd
  split
  · exact hx
  · exact h.fl j
/-- A change of the directory by a call that counts. -/
theorem Inv.chg (h : Inv σ) (hl : σ.c.calls < 1048576) (d : List Ent) (hd : d.length ≤ σ.dir.length + 1) : Inv (σ.cnt.chg d) := by
  have h2 := h.cnt hl
  have e : σ.cnt.c.calls = σ.c.calls + 1 := Cn.cc_calls _
  have h3 := h.dl
  have hdc : (d.length : Int) ≤ σ.cnt.c.calls := by rw [e]; omega
  refine ⟨h2.ok, hdc, ?_, ?_, fun l hl => ?_, h.room, h.fl⟩
  · have := h.wl
    show ((σ.was ++ [d]).length : Int) ≤ σ.cnt.c.calls + 1
    rw [e, List.length_append, List.length_singleton]
    omega
  · show 1 ≤ (σ.was ++ [d]).length
    simp
  · rcases List.mem_append.1 hl with hl | hl
    · exact h2.wd l hl
    · simp at hl
      subst hl
      exact hdc
theorem Inv.create (h : Inv σ) (hl : σ.c.calls < 1048576) (s : ByteArray) : Inv (σ.create s).2 := by
  unfold DS.create
  split
  · exact h.cnt hl
  · split
    · exact h.cnt hl
    · split
      · exact h.cnt hl
      · exact (h.chg hl _ (pt_le _ _ _)).files _ (h.upd _ _ ⟨by simp, by simp, fun x hx => by simp at hx⟩) _
theorem Inv.append (h : Inv σ) (hl : σ.c.calls < 1048576) (s : ByteArray) (b : List Int) (hb : Okb b) : Inv (σ.append s b).2 := by
  unfold DS.append
  split
  · exact h.cnt hl
  · split
    · exact h.cnt hl
    · next i _ =>
      split
      · exact h.cnt hl
      · next q =>
        have hi := h.fl i
        refine (h.cnt hl).files _ (h.upd _ _ ⟨?_, ?_, hi.2.2.app hb⟩) _
        · simp only [List.length_append]
          omega
        · simp only [List.length_append]
          omega
theorem Inv.sync (h : Inv σ) (hl : σ.c.calls < 1048576) (s : ByteArray) : Inv (σ.sync s).2 := by
  unfold DS.sync
  split
  · exact h.cnt hl
  · split
    · exact h.cnt hl
    · next i _ => exact (h.cnt hl).files _ (h.upd i ((σ.fl i).1, (σ.fl i).1.length) ⟨(h.fl i).1, Nat.le_refl (σ.fl i).1.length, (h.fl i).2.2⟩) _
theorem Inv.rename (h : Inv σ) (hl : σ.c.calls < 1048576) (s t : ByteArray) : Inv (σ.rename s t).2 := by
  unfold DS.rename
  split
  · exact h.cnt hl
  · split
    · exact h.cnt hl
    · split
      · exact h.cnt hl
      · split
        · exact h.cnt hl
        · exact h.chg hl _ (Nat.le_trans (pt_le _ _ _) (Nat.succ_le_succ (drp_le _ _)))
theorem Inv.remove (h : Inv σ) (hl : σ.c.calls < 1048576) (s : ByteArray) : Inv (σ.remove s).2 := by
  unfold DS.remove
  split
  · exact h.cnt hl
  · split
    · exact h.cnt hl
    · exact h.chg hl _ (Nat.le_trans (drp_le _ _) (Nat.le_succ _))
theorem Inv.syncDir (h : Inv σ) (hl : σ.c.calls < 1048576) : Inv σ.syncDir.2 := by
  unfold DS.syncDir
  split
  · exact h.cnt hl
  · have h2 := h.cnt hl
    refine ⟨h2.ok, h2.dl, ?_, Nat.le_refl 1, fun l hl => ?_, h.room, h.fl⟩
    · have h3 := h2.ok.1
      show ((1 : Nat) : Int) ≤ σ.cnt.c.calls + 1
      omega
    · have hl2 : l ∈ [σ.dir] := hl
      simp at hl2
      subst hl2
      exact h2.dl
theorem Inv.setFuse (h : Inv σ) (n : Int) (hn : n ≤ 9223372036854775807) : Inv (σ.setFuse n) := by
  obtain ⟨a1, a2, a3, a4, a5, a6, a7, a8⟩ := h.ok
  exact ⟨⟨a1, a2, by show 0 ≤ max 0 n; omega, by show max 0 n ≤ _; omega, a5, a6, a7, a8⟩, h.dl, h.wl, h.w1, h.wd, h.room, h.fl⟩
theorem Inv.setFault (h : Inv σ) (f n : Int) (hf : f ≤ 9223372036854775807) (hn : n ≤ 9223372036854775807) : Inv (σ.setFault f n) := by
  obtain ⟨a1, a2, a3, a4, a5, a6, a7, a8⟩ := h.ok
  refine ⟨⟨a1, a2, a3, a4, ?_, ?_, ?_, ?_⟩, h.dl, h.wl, h.w1, h.wd, h.room, h.fl⟩
  · show 0 ≤ if f < 1 ∨ n < 1 then 0 else f
    split <;> omega
  · show (if f < 1 ∨ n < 1 then 0 else f) ≤ _
    split <;> omega
  · show 0 ≤ if f < 1 ∨ n < 1 then 0 else n
    split <;> omega
  · show (if f < 1 ∨ n < 1 then 0 else n) ≤ _
    split <;> omega
theorem Inv.spoil (h : Inv σ) (s : ByteArray) (at_ x : Int) (hx : 0 ≤ x ∧ x < 256) : Inv (σ.spoil s at_ x).2 := by
  unfold DS.spoil
  split
  · exact h
  · split
    · exact h
    · next i _ =>
      split
      · have hi := h.fl i
        refine h.files _ (h.upd _ _ ⟨by simp only [List.length_set]; exact hi.1, by simp only [List.length_set]; exact hi.2.1, fun y hy => ?_⟩) _
        rcases List.mem_or_eq_of_mem_set hy with hy | rfl
        · exact hi.2.2 y hy
        · exact hx
      · exact h
theorem Inv.new (room : Int) (hr : room ≤ 9223372036854775807) : Inv (DS.new room) := by
  refine ⟨⟨z0, zk, z0, zm, z0, zm, z0, zm⟩, z0, (by decide : ((1 : Nat) : Int) ≤ 0 + 1), Nat.le_refl 1, fun l hl => ?_, ⟨by show 0 ≤ max 0 room; omega, by show max 0 room ≤ _; omega⟩, fun i => ⟨Nat.zero_le _, Nat.le_refl 0, fun x hx => by cases hx⟩⟩
  have hl2 : l ∈ [([] : List Ent)] := hl
  simp at hl2
  subst hl2
  exact z0
theorem Okb.take {xs : List Int} (h : Okb xs) (n : Nat) : Okb (xs.take n) := fun x hx => h x (List.mem_of_mem_take hx)
theorem keeps_fl (fl : Nat → List Int × Nat) (ps : List Int) (nx : Nat) (hf : ∀ i, (fl i).1.length ≤ 4194304 ∧ (fl i).2 ≤ (fl i).1.length ∧ Okb (fl i).1) : ∀ (l : List Ent) (k : Nat) (g : Nat → List Int × Nat), (∀ i, (g i).1.length ≤ 4194304 ∧ (g i).2 ≤ (g i).1.length ∧ Okb (g i).1) → ∀ i, ((keeps fl ps nx k l g).2 i).1.length ≤ 4194304 ∧ ((keeps fl ps nx k l g).2 i).2 ≤ ((keeps fl ps nx k l g).2 i).1.length ∧ Okb ((keeps fl ps nx k l g).2 i).1
  | [], _, g, hg, i => hg i
  | e :: r, k, g, hg, i => by
    simp only [keeps]
    refine keeps_fl fl ps nx hf r (k + 1) _ (fun j => ?_) i
    unfold upd
    split
    · have h1 := hf e.2
      have h2 := pick_le ps (k + 1) ((fl e.2).1.length - (fl e.2).2)
      simp only [List.length_take]
      exact ⟨by omega, by omega, h1.2.2.take _⟩
    · exact hg j
theorem Inv.crash (h : Inv σ) (ps : List Int) : Inv (σ.crash ps) := by
  have hk := h.wd _ (kept_mem h ps)
  obtain ⟨a1, a2, _⟩ := h.ok
  have hl : ((keeps σ.fl ps σ.nx 0 (σ.kept ps) σ.fl).1).length = (σ.kept ps).length := by rw [keeps_fst, renK_len]
  refine ⟨⟨a1, a2, z0, zm, z0, zm, z0, zm⟩, ?_, ?_, Nat.le_refl 1, fun l hl2 => ?_, h.room, keeps_fl σ.fl ps σ.nx h.fl _ 0 _ h.fl⟩
  · show (((keeps σ.fl ps σ.nx 0 (σ.kept ps) σ.fl).1).length : Int) ≤ σ.c.calls
    rw [hl]
    exact hk
  · show ((1 : Nat) : Int) ≤ σ.c.calls + 1
    omega
  · have hl3 : l ∈ [(keeps σ.fl ps σ.nx 0 (σ.kept ps) σ.fl).1] := hl2
    simp at hl3
    subst hl3
    show (((keeps σ.fl ps σ.nx 0 (σ.kept ps) σ.fl).1).length : Int) ≤ σ.c.calls
    rw [hl]
    exact hk
end
end Go.Proofs.YtligofmcmjblpaaGreat

/- The document's own disk: what counts a call, what ends one. -/
namespace Go.Proofs.YtligofmcmjblpaaGreat
open Go.RowKit
set_option linter.unusedVariables false
set_option linter.unusedSimpArgs false

theorem Dk.set3 {w : World} {p : Nat} {room : Int} {lv wv : Value} {c : Cn} (h : Dk w p room lv wv c) (v : Int) : Dk (w.setCell ⟨p, 3, none⟩ (.int .i64 v)) p room lv wv { c with calls := v } := heap_set h 3 _
theorem Dk.set4 {w : World} {p : Nat} {room : Int} {lv wv : Value} {c : Cn} (h : Dk w p room lv wv c) (v : Int) : Dk (w.setCell ⟨p, 4, none⟩ (.int .i64 v)) p room lv wv { c with fuse := v } := heap_set h 4 _
theorem Dk.set5 {w : World} {p : Nat} {room : Int} {lv wv : Value} {c : Cn} (h : Dk w p room lv wv c) (v : Int) : Dk (w.setCell ⟨p, 5, none⟩ (.int .i64 v)) p room lv wv { c with wait := v } := heap_set h 5 _
theorem Dk.set6 {w : World} {p : Nat} {room : Int} {lv wv : Value} {c : Cn} (h : Dk w p room lv wv c) (v : Int) : Dk (w.setCell ⟨p, 6, none⟩ (.int .i64 v)) p room lv wv { c with fails := v } := heap_set h 6 _
theorem Dk.set7 {w : World} {p : Nat} {room : Int} {lv wv : Value} {c : Cn} (h : Dk w p room lv wv c) (v : Bool) : Dk (w.setCell ⟨p, 7, none⟩ (.bool v)) p room lv wv { c with off := v } := heap_set h 7 _
theorem Dk.set1 {w : World} {p : Nat} {room : Int} {lv wv : Value} {c : Cn} (h : Dk w p room lv wv c) (v : Value) : Dk (w.setCell ⟨p, 1, none⟩ v) p room v wv c := heap_set h 1 _
theorem Dk.set2 {w : World} {p : Nat} {room : Int} {lv wv : Value} {c : Cn} (h : Dk w p room lv wv c) (v : Value) : Dk (w.setCell ⟨p, 2, none⟩ v) p room lv v c := heap_set h 2 _

set_option maxHeartbeats 1000000 in
set_option maxRecDepth 100000 in
theorem rcall_any (p : Nat) (room : Int) (lv wv : Value) (c : Cn) (w : World) (h : Dk w p room lv wv c) (hc : c.Ok) :
    Calls Tryz.prog 68 #[ptr p] w fun e w' => e = .returned (.tuple #[.int .i64 c.ce, .bool c.cl]) ∧ Dk w' p room lv wv c.cc ∧ w.grownBy w' (some p) := by
  obtain ⟨calls, fuse, wait, fails, off⟩ := c
  obtain ⟨a1, a2, a3, a4, a5, a6, a7, a8⟩ := hc
  simp only at a1 a2 a3 a4 a5 a6 a7 a8
  have HD : Hid (Dk w p room lv wv ⟨calls, fuse, wait, fails, off⟩) := h
  have c3 := cell_of h 3
  have c4 := cell_of h 4
  have c5 := cell_of h 5
  have c6 := cell_of h 6
  have c7 := cell_of h 7
  have f3 := frozen_of h 3
  have f4 := frozen_of h 4
  have f5 := frozen_of h 5
  have f6 := frozen_of h 6
  have f7 := frozen_of h 7
  simp only [List.getElem?_toArray, List.getElem?_cons_succ, List.getElem?_cons_zero] at c3 c4 c5 c6 c7
  clear h
  unfold ptr
  cases off with
  | true =>
    go_enter Tryz.func68, Tryz.ntmps68
    go_wp2_with fail
    refine bodyPost_ret (v := .tuple #[.int .i64 10, .bool false]) (by simp [results, Tryz.results68, go_sem]) rfl ⟨rfl, HD.out.set3 _, grown_set _ _ _ _⟩
  | false =>
    have hf3 : fuse = 0 ∨ fuse = 1 ∨ 1 < fuse := by omega
    have hk3 : fails = 0 ∨ (0 < fails ∧ wait ≤ 1) ∨ (0 < fails ∧ 1 < wait) := by omega
    rcases hf3 with hf | hf | hf
    · rcases hk3 with hk | hk | hk
      · subst hf
        subst hk
        have q1 : Cn.ce ⟨calls, 0, wait, 0, false⟩ = 0 := by simp [Cn.ce, Cn.fl]
        have q2 : Cn.cl ⟨calls, 0, wait, 0, false⟩ = false := by simp [Cn.cl, Cn.fl]
        have q3 : Cn.cc ⟨calls, 0, wait, 0, false⟩ = ⟨calls + 1, 0, wait, 0, false⟩ := by simp [Cn.cc]
        rw [q1, q2, q3]
        clear q1 q2 q3
        go_enter Tryz.func68, Tryz.ntmps68
        go_wp2_with fail
        refine bodyPost_ret (v := .tuple #[.int .i64 0, .bool false]) (by simp [results, Tryz.results68, go_sem]) rfl ⟨rfl, (HD.out.set3 _), (grown_set _ _ _ _)⟩
      · subst hf
        obtain ⟨k1, k2⟩ := hk
        have q1 : Cn.ce ⟨calls, 0, wait, fails, false⟩ = 9 := by simp [Cn.ce, Cn.fl, k1, show ¬ 1 < wait by omega]
        have q2 : Cn.cl ⟨calls, 0, wait, fails, false⟩ = false := by simp [Cn.cl, Cn.fl, k1, show ¬ 1 < wait by omega]
        have q3 : Cn.cc ⟨calls, 0, wait, fails, false⟩ = ⟨calls + 1, 0, wait, fails - 1, false⟩ := by simp [Cn.cc, k1, show ¬ 1 < wait by omega]
        rw [q1, q2, q3]
        clear q1 q2 q3
        go_enter Tryz.func68, Tryz.ntmps68
        go_wp2_with fail
        refine bodyPost_ret (v := .tuple #[.int .i64 9, .bool false]) (by simp [results, Tryz.results68, go_sem]) rfl ⟨rfl, ((HD.out.set3 _).set6 _), (grown_trans (grown_set _ _ _ _) (grown_set _ _ _ _))⟩
      · subst hf
        obtain ⟨k1, k2⟩ := hk
        have q1 : Cn.ce ⟨calls, 0, wait, fails, false⟩ = 0 := by simp [Cn.ce, Cn.fl, k1, k2]
        have q2 : Cn.cl ⟨calls, 0, wait, fails, false⟩ = false := by simp [Cn.cl, Cn.fl, k1, k2]
        have q3 : Cn.cc ⟨calls, 0, wait, fails, false⟩ = ⟨calls + 1, 0, wait - 1, fails, false⟩ := by simp [Cn.cc, k1, k2]
        rw [q1, q2, q3]
        clear q1 q2 q3
        go_enter Tryz.func68, Tryz.ntmps68
        go_wp2_with fail
        refine bodyPost_ret (v := .tuple #[.int .i64 0, .bool false]) (by simp [results, Tryz.results68, go_sem]) rfl ⟨rfl, ((HD.out.set3 _).set5 _), (grown_trans (grown_set _ _ _ _) (grown_set _ _ _ _))⟩
    · rcases hk3 with hk | hk | hk
      · subst hf
        subst hk
        have q1 : Cn.ce ⟨calls, 1, wait, 0, false⟩ = 0 := by simp [Cn.ce, Cn.fl]
        have q2 : Cn.cl ⟨calls, 1, wait, 0, false⟩ = true := by simp [Cn.cl, Cn.fl]
        have q3 : Cn.cc ⟨calls, 1, wait, 0, false⟩ = ⟨calls + 1, 0, wait, 0, true⟩ := by simp [Cn.cc]
        rw [q1, q2, q3]
        clear q1 q2 q3
        go_enter Tryz.func68, Tryz.ntmps68
        go_wp2_with fail
        refine bodyPost_ret (v := .tuple #[.int .i64 0, .bool true]) (by simp [results, Tryz.results68, go_sem]) rfl ⟨rfl, (((HD.out.set3 _).set4 _).set7 _), (grown_trans (grown_trans (grown_set _ _ _ _) (grown_set _ _ _ _)) (grown_set _ _ _ _))⟩
      · subst hf
        obtain ⟨k1, k2⟩ := hk
        have q1 : Cn.ce ⟨calls, 1, wait, fails, false⟩ = 10 := by simp [Cn.ce, Cn.fl, k1, show ¬ 1 < wait by omega]
        have q2 : Cn.cl ⟨calls, 1, wait, fails, false⟩ = false := by simp [Cn.cl, Cn.fl, k1, show ¬ 1 < wait by omega]
        have q3 : Cn.cc ⟨calls, 1, wait, fails, false⟩ = ⟨calls + 1, 0, wait, fails - 1, true⟩ := by simp [Cn.cc, k1, show ¬ 1 < wait by omega]
        rw [q1, q2, q3]
        clear q1 q2 q3
        go_enter Tryz.func68, Tryz.ntmps68
        go_wp2_with fail
        refine bodyPost_ret (v := .tuple #[.int .i64 10, .bool false]) (by simp [results, Tryz.results68, go_sem]) rfl ⟨rfl, ((((HD.out.set3 _).set4 _).set6 _).set7 _), (grown_trans (grown_trans (grown_trans (grown_set _ _ _ _) (grown_set _ _ _ _)) (grown_set _ _ _ _)) (grown_set _ _ _ _))⟩
      · subst hf
        obtain ⟨k1, k2⟩ := hk
        have q1 : Cn.ce ⟨calls, 1, wait, fails, false⟩ = 0 := by simp [Cn.ce, Cn.fl, k1, k2]
        have q2 : Cn.cl ⟨calls, 1, wait, fails, false⟩ = true := by simp [Cn.cl, Cn.fl, k1, k2]
        have q3 : Cn.cc ⟨calls, 1, wait, fails, false⟩ = ⟨calls + 1, 0, wait - 1, fails, true⟩ := by simp [Cn.cc, k1, k2]
        rw [q1, q2, q3]
        clear q1 q2 q3
        go_enter Tryz.func68, Tryz.ntmps68
        go_wp2_with fail
        refine bodyPost_ret (v := .tuple #[.int .i64 0, .bool true]) (by simp [results, Tryz.results68, go_sem]) rfl ⟨rfl, ((((HD.out.set3 _).set4 _).set5 _).set7 _), (grown_trans (grown_trans (grown_trans (grown_set _ _ _ _) (grown_set _ _ _ _)) (grown_set _ _ _ _)) (grown_set _ _ _ _))⟩
    · rcases hk3 with hk | hk | hk
      · have e1 : (fuse == 1) = false := by simp; omega
        have e2 : (0 : Int) < fuse := by omega
        subst hk
        have q1 : Cn.ce ⟨calls, fuse, wait, 0, false⟩ = 0 := by simp [Cn.ce, Cn.fl, show ¬ fuse = 1 by omega, show (0 : Int) < fuse by omega]
        have q2 : Cn.cl ⟨calls, fuse, wait, 0, false⟩ = false := by simp [Cn.cl, Cn.fl, show ¬ fuse = 1 by omega, show (0 : Int) < fuse by omega]
        have q3 : Cn.cc ⟨calls, fuse, wait, 0, false⟩ = ⟨calls + 1, fuse - 1, wait, 0, false⟩ := by simp [Cn.cc, show ¬ fuse = 1 by omega, show (0 : Int) < fuse by omega]
        rw [q1, q2, q3]
        clear q1 q2 q3
        go_enter Tryz.func68, Tryz.ntmps68
        go_wp2_with fail
        refine bodyPost_ret (v := .tuple #[.int .i64 0, .bool false]) (by simp [results, Tryz.results68, go_sem]) rfl ⟨rfl, ((HD.out.set3 _).set4 _), (grown_trans (grown_set _ _ _ _) (grown_set _ _ _ _))⟩
      · have e1 : (fuse == 1) = false := by simp; omega
        have e2 : (0 : Int) < fuse := by omega
        obtain ⟨k1, k2⟩ := hk
        have q1 : Cn.ce ⟨calls, fuse, wait, fails, false⟩ = 9 := by simp [Cn.ce, Cn.fl, show ¬ fuse = 1 by omega, show (0 : Int) < fuse by omega, k1, show ¬ 1 < wait by omega]
        have q2 : Cn.cl ⟨calls, fuse, wait, fails, false⟩ = false := by simp [Cn.cl, Cn.fl, show ¬ fuse = 1 by omega, show (0 : Int) < fuse by omega, k1, show ¬ 1 < wait by omega]
        have q3 : Cn.cc ⟨calls, fuse, wait, fails, false⟩ = ⟨calls + 1, fuse - 1, wait, fails - 1, false⟩ := by simp [Cn.cc, show ¬ fuse = 1 by omega, show (0 : Int) < fuse by omega, k1, show ¬ 1 < wait by omega]
        rw [q1, q2, q3]
        clear q1 q2 q3
        go_enter Tryz.func68, Tryz.ntmps68
        go_wp2_with fail
        refine bodyPost_ret (v := .tuple #[.int .i64 9, .bool false]) (by simp [results, Tryz.results68, go_sem]) rfl ⟨rfl, (((HD.out.set3 _).set4 _).set6 _), (grown_trans (grown_trans (grown_set _ _ _ _) (grown_set _ _ _ _)) (grown_set _ _ _ _))⟩
      · have e1 : (fuse == 1) = false := by simp; omega
        have e2 : (0 : Int) < fuse := by omega
        obtain ⟨k1, k2⟩ := hk
        have q1 : Cn.ce ⟨calls, fuse, wait, fails, false⟩ = 0 := by simp [Cn.ce, Cn.fl, show ¬ fuse = 1 by omega, show (0 : Int) < fuse by omega, k1, k2]
        have q2 : Cn.cl ⟨calls, fuse, wait, fails, false⟩ = false := by simp [Cn.cl, Cn.fl, show ¬ fuse = 1 by omega, show (0 : Int) < fuse by omega, k1, k2]
        have q3 : Cn.cc ⟨calls, fuse, wait, fails, false⟩ = ⟨calls + 1, fuse - 1, wait - 1, fails, false⟩ := by simp [Cn.cc, show ¬ fuse = 1 by omega, show (0 : Int) < fuse by omega, k1, k2]
        rw [q1, q2, q3]
        clear q1 q2 q3
        go_enter Tryz.func68, Tryz.ntmps68
        go_wp2_with fail
        refine bodyPost_ret (v := .tuple #[.int .i64 0, .bool false]) (by simp [results, Tryz.results68, go_sem]) rfl ⟨rfl, (((HD.out.set3 _).set4 _).set5 _), (grown_trans (grown_trans (grown_set _ _ _ _) (grown_set _ _ _ _)) (grown_set _ _ _ _))⟩

theorem rend_any (e : Int) (l : Bool) (w : World) : Calls Tryz.prog 70 #[.int .i64 e, .bool l] w fun x w' => x = .returned (.int .i64 (endE e l)) ∧ w' = w := by
  cases l with
  | true =>
    go_enter Tryz.func70, Tryz.ntmps70
    go_wp2_with fail
    go_ret
    exact ⟨rfl, rfl⟩
  | false =>
    go_enter Tryz.func70, Tryz.ntmps70
    go_wp2_with fail
    go_ret
    exact ⟨rfl, rfl⟩
end Go.Proofs.YtligofmcmjblpaaGreat
