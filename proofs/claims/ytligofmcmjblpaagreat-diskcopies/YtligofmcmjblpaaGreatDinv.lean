/- What holds of each state of a disk, and is kept by each call. -/
import Derived.Test.YtligofmcmjblpaaGreatKeeps
namespace Go.Proofs.YtligofmcmjblpaaGreat
open Go.RowKit
set_option linter.unusedVariables false

theorem z0 : (0 : Int) ≤ 0 := by decide
theorem zm : (0 : Int) ≤ 9223372036854775807 := by decide
theorem zk : (0 : Int) ≤ 1048576 := by decide
theorem Cn.cc_calls (c : Cn) : c.cc.calls = c.calls + 1 := by
  unfold Cn.cc
  split <;> rfl
theorem Cn.Ok.cc {c : Cn} (h : c.Ok) (hl : c.calls < 1048576) : c.cc.Ok := by
  obtain ⟨a1, a2, a3, a4, a5, a6, a7, a8⟩ := h
  unfold Cn.cc
  split
  · exact ⟨by show 0 ≤ c.calls + 1; omega, by show c.calls + 1 ≤ 1048576; omega, a3, a4, a5, a6, a7, a8⟩
  · refine ⟨by show 0 ≤ c.calls + 1; omega, by show c.calls + 1 ≤ 1048576; omega, ?_, ?_, ?_, ?_, ?_, ?_⟩
    · show 0 ≤ if 0 < c.fuse then c.fuse - 1 else c.fuse
      split <;> omega
    · show (if 0 < c.fuse then c.fuse - 1 else c.fuse) ≤ _
      split <;> omega
    · show 0 ≤ if 0 < c.fails ∧ 1 < c.wait then c.wait - 1 else c.wait
      split <;> omega
    · show (if 0 < c.fails ∧ 1 < c.wait then c.wait - 1 else c.wait) ≤ _
      split <;> omega
    · show 0 ≤ if 0 < c.fails ∧ ¬ 1 < c.wait then c.fails - 1 else c.fails
      split <;> omega
    · show (if 0 < c.fails ∧ ¬ 1 < c.wait then c.fails - 1 else c.fails) ≤ _
      split <;> omega
section
variable {σ : DS}
theorem Inv.cnt (h : Inv σ) (hl : σ.c.calls < 1048576) : Inv σ.cnt := by
  have e : σ.cnt.c.calls = σ.c.calls + 1 := Cn.cc_calls _
  refine ⟨h.ok.cc hl, ?_, ?_, h.w1, fun l hl => ?_, h.room, h.fl⟩
  · have := h.dl
    rw [e]
    show (σ.dir.length : Int) ≤ _
    omega
  · have := h.wl
    rw [e]
    show (σ.was.length : Int) ≤ _
    omega
  · have := h.wd l hl
    rw [e]
    omega
/-- The state but for the files. -/
theorem Inv.files (h : Inv σ) (fl : Nat → List Int × Nat) (hf : ∀ i, (fl i).1.length ≤ 4194304 ∧ (fl i).2 ≤ (fl i).1.length ∧ Okb (fl i).1) (n : Nat) : Inv { σ with fl := fl, nx := n } := ⟨h.ok, h.dl, h.wl, h.w1, h.wd, h.room, hf⟩
theorem Inv.upd (h : Inv σ) (i : Nat) (x : List Int × Nat) (hx : x.1.length ≤ 4194304 ∧ x.2 ≤ x.1.length ∧ Okb x.1) : ∀ j, ((YtligofmcmjblpaaGreat.upd σ.fl i x) j).1.length ≤ 4194304 ∧ ((YtligofmcmjblpaaGreat.upd σ.fl i x) j).2 ≤ ((YtligofmcmjblpaaGreat.upd σ.fl i x) j).1.length ∧ Okb ((YtligofmcmjblpaaGreat.upd σ.fl i x) j).1 := fun j => by
  unfold YtligofmcmjblpaaGreat.upd
  split
  · exact hx
  · exact h.fl j
/-- A change of the directory by a call that counts. -/
theorem Inv.chg (h : Inv σ) (hl : σ.c.calls < 1048576) (d : List Ent) (hd : d.length ≤ σ.dir.length + 1) : Inv (σ.cnt.chg d) := by
  have h2 := h.cnt hl
  have e : σ.cnt.c.calls = σ.c.calls + 1 := Cn.cc_calls _
  have h3 := h.dl
  have hdc : (d.length : Int) ≤ σ.cnt.c.calls := by rw [e]; omega
  refine ⟨h2.ok, hdc, ?_, ?_, fun l hl => ?_, h.room, h.fl⟩
  · have := h.wl
    show ((σ.was ++ [d]).length : Int) ≤ σ.cnt.c.calls + 1
    rw [e, List.length_append, List.length_singleton]
    omega
  · show 1 ≤ (σ.was ++ [d]).length
    simp
  · rcases List.mem_append.1 hl with hl | hl
    · exact h2.wd l hl
    · simp at hl
      subst hl
      exact hdc
theorem Inv.create (h : Inv σ) (hl : σ.c.calls < 1048576) (s : ByteArray) : Inv (σ.create s).2 := by
  unfold DS.create
  split
  · exact h.cnt hl
  · split
    · exact h.cnt hl
    · split
      · exact h.cnt hl
      · exact (h.chg hl _ (pt_le _ _ _)).files _ (h.upd _ _ ⟨by simp, by simp, fun x hx => by simp at hx⟩) _
theorem Inv.append (h : Inv σ) (hl : σ.c.calls < 1048576) (s : ByteArray) (b : List Int) (hb : Okb b) : Inv (σ.append s b).2 := by
  unfold DS.append
  split
  · exact h.cnt hl
  · split
    · exact h.cnt hl
    · next i _ =>
      split
      · exact h.cnt hl
      · next q =>
        have hi := h.fl i
        refine (h.cnt hl).files _ (h.upd _ _ ⟨?_, ?_, hi.2.2.app hb⟩) _
        · simp only [List.length_append]
          omega
        · simp only [List.length_append]
          omega
theorem Inv.sync (h : Inv σ) (hl : σ.c.calls < 1048576) (s : ByteArray) : Inv (σ.sync s).2 := by
  unfold DS.sync
  split
  · exact h.cnt hl
  · split
    · exact h.cnt hl
    · next i _ => exact (h.cnt hl).files _ (h.upd i ((σ.fl i).1, (σ.fl i).1.length) ⟨(h.fl i).1, Nat.le_refl (σ.fl i).1.length, (h.fl i).2.2⟩) _
theorem Inv.rename (h : Inv σ) (hl : σ.c.calls < 1048576) (s t : ByteArray) : Inv (σ.rename s t).2 := by
  unfold DS.rename
  split
  · exact h.cnt hl
  · split
    · exact h.cnt hl
    · split
      · exact h.cnt hl
      · split
        · exact h.cnt hl
        · exact h.chg hl _ (Nat.le_trans (pt_le _ _ _) (Nat.succ_le_succ (drp_le _ _)))
theorem Inv.remove (h : Inv σ) (hl : σ.c.calls < 1048576) (s : ByteArray) : Inv (σ.remove s).2 := by
  unfold DS.remove
  split
  · exact h.cnt hl
  · split
    · exact h.cnt hl
    · exact h.chg hl _ (Nat.le_trans (drp_le _ _) (Nat.le_succ _))
theorem Inv.syncDir (h : Inv σ) (hl : σ.c.calls < 1048576) : Inv σ.syncDir.2 := by
  unfold DS.syncDir
  split
  · exact h.cnt hl
  · have h2 := h.cnt hl
    refine ⟨h2.ok, h2.dl, ?_, Nat.le_refl 1, fun l hl => ?_, h.room, h.fl⟩
    · have h3 := h2.ok.1
      show ((1 : Nat) : Int) ≤ σ.cnt.c.calls + 1
      omega
    · have hl2 : l ∈ [σ.dir] := hl
      simp at hl2
      subst hl2
      exact h2.dl
theorem Inv.setFuse (h : Inv σ) (n : Int) (hn : n ≤ 9223372036854775807) : Inv (σ.setFuse n) := by
  obtain ⟨a1, a2, a3, a4, a5, a6, a7, a8⟩ := h.ok
  exact ⟨⟨a1, a2, by show 0 ≤ max 0 n; omega, by show max 0 n ≤ _; omega, a5, a6, a7, a8⟩, h.dl, h.wl, h.w1, h.wd, h.room, h.fl⟩
theorem Inv.setFault (h : Inv σ) (f n : Int) (hf : f ≤ 9223372036854775807) (hn : n ≤ 9223372036854775807) : Inv (σ.setFault f n) := by
  obtain ⟨a1, a2, a3, a4, a5, a6, a7, a8⟩ := h.ok
  refine ⟨⟨a1, a2, a3, a4, ?_, ?_, ?_, ?_⟩, h.dl, h.wl, h.w1, h.wd, h.room, h.fl⟩
  · show 0 ≤ if f < 1 ∨ n < 1 then 0 else f
    split <;> omega
  · show (if f < 1 ∨ n < 1 then 0 else f) ≤ _
    split <;> omega
  · show 0 ≤ if f < 1 ∨ n < 1 then 0 else n
    split <;> omega
  · show (if f < 1 ∨ n < 1 then 0 else n) ≤ _
    split <;> omega
theorem Inv.spoil (h : Inv σ) (s : ByteArray) (at_ x : Int) (hx : 0 ≤ x ∧ x < 256) : Inv (σ.spoil s at_ x).2 := by
  unfold DS.spoil
  split
  · exact h
  · split
    · exact h
    · next i _ =>
      split
      · have hi := h.fl i
        refine h.files _ (h.upd _ _ ⟨by simp only [List.length_set]; exact hi.1, by simp only [List.length_set]; exact hi.2.1, fun y hy => ?_⟩) _
        rcases List.mem_or_eq_of_mem_set hy with hy | rfl
        · exact hi.2.2 y hy
        · exact hx
      · exact h
theorem Inv.new (room : Int) (hr : room ≤ 9223372036854775807) : Inv (DS.new room) := by
  refine ⟨⟨z0, zk, z0, zm, z0, zm, z0, zm⟩, z0, (by decide : ((1 : Nat) : Int) ≤ 0 + 1), Nat.le_refl 1, fun l hl => ?_, ⟨by show 0 ≤ max 0 room; omega, by show max 0 room ≤ _; omega⟩, fun i => ⟨Nat.zero_le _, Nat.le_refl 0, fun x hx => by cases hx⟩⟩
  have hl2 : l ∈ [([] : List Ent)] := hl
  simp at hl2
  subst hl2
  exact z0
theorem Okb.take {xs : List Int} (h : Okb xs) (n : Nat) : Okb (xs.take n) := fun x hx => h x (List.mem_of_mem_take hx)
theorem keeps_fl (fl : Nat → List Int × Nat) (ps : List Int) (nx : Nat) (hf : ∀ i, (fl i).1.length ≤ 4194304 ∧ (fl i).2 ≤ (fl i).1.length ∧ Okb (fl i).1) : ∀ (l : List Ent) (k : Nat) (g : Nat → List Int × Nat), (∀ i, (g i).1.length ≤ 4194304 ∧ (g i).2 ≤ (g i).1.length ∧ Okb (g i).1) → ∀ i, ((keeps fl ps nx k l g).2 i).1.length ≤ 4194304 ∧ ((keeps fl ps nx k l g).2 i).2 ≤ ((keeps fl ps nx k l g).2 i).1.length ∧ Okb ((keeps fl ps nx k l g).2 i).1
  | [], _, g, hg, i => hg i
  | e :: r, k, g, hg, i => by
    simp only [keeps]
    refine keeps_fl fl ps nx hf r (k + 1) _ (fun j => ?_) i
    unfold upd
    split
    · have h1 := hf e.2
      have h2 := pick_le ps (k + 1) ((fl e.2).1.length - (fl e.2).2)
      simp only [List.length_take]
      exact ⟨by omega, by omega, h1.2.2.take _⟩
    · exact hg j
theorem Inv.crash (h : Inv σ) (ps : List Int) : Inv (σ.crash ps) := by
  have hk := h.wd _ (kept_mem h ps)
  obtain ⟨a1, a2, _⟩ := h.ok
  have hl : ((keeps σ.fl ps σ.nx 0 (σ.kept ps) σ.fl).1).length = (σ.kept ps).length := by rw [keeps_fst, renK_len]
  refine ⟨⟨a1, a2, z0, zm, z0, zm, z0, zm⟩, ?_, ?_, Nat.le_refl 1, fun l hl2 => ?_, h.room, keeps_fl σ.fl ps σ.nx h.fl _ 0 _ h.fl⟩
  · show (((keeps σ.fl ps σ.nx 0 (σ.kept ps) σ.fl).1).length : Int) ≤ σ.c.calls
    rw [hl]
    exact hk
  · show ((1 : Nat) : Int) ≤ σ.c.calls + 1
    omega
  · have hl3 : l ∈ [(keeps σ.fl ps σ.nx 0 (σ.kept ps) σ.fl).1] := hl2
    simp at hl3
    subst hl3
    show (((keeps σ.fl ps σ.nx 0 (σ.kept ps) σ.fl).1).length : Int) ≤ σ.c.calls
    rw [hl]
    exact hk
end
end Go.Proofs.YtligofmcmjblpaaGreat
