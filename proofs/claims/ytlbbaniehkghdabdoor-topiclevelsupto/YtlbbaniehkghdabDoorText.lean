/- Texts: characters by their shortest bytes, without 0; and what is a name, a filter, a meeting, a cover. -/
import Derived.Test.YtlbbaniehkghdabDoorTopic
namespace Go.Proofs.YtlbbaniehkghdabDoor
set_option linter.unusedVariables false

def atB (s : List UInt8) (i : Nat) (lo hi : UInt8) : Bool := match s[i]? with
  | some c => decide (lo ≤ c) && decide (c ≤ hi)
  | none => false
/-- How many bytes the character at the beginning has; 0: none. -/
def tsz (s : List UInt8) : Nat := match s with
  | [] => 0
  | c :: _ =>
    if decide (1 ≤ c) && decide (c ≤ 127) then 1
    else if decide (194 ≤ c) && decide (c ≤ 223) && atB s 1 128 191 then 2
    else if c == 224 && atB s 1 160 191 && atB s 2 128 191 then 3
    else if c == 237 && atB s 1 128 159 && atB s 2 128 191 then 3
    else if decide (225 ≤ c) && decide (c ≤ 239) && c != 237 && atB s 1 128 191 && atB s 2 128 191 then 3
    else if c == 240 && atB s 1 144 191 && atB s 2 128 191 && atB s 3 128 191 then 4
    else if decide (241 ≤ c) && decide (c ≤ 243) && atB s 1 128 191 && atB s 2 128 191 && atB s 3 128 191 then 4
    else if c == 244 && atB s 1 128 143 && atB s 2 128 191 && atB s 3 128 191 then 4
    else 0
def txt : Nat → List UInt8 → Bool
  | _, [] => true
  | 0, _ :: _ => false
  | n + 1, c :: s => tsz (c :: s) != 0 && txt n ((c :: s).drop (tsz (c :: s)))
def text (s : List UInt8) : Bool := txt s.length s

theorem ite_le {p : Prop} [Decidable p] {a b n : Nat} (ha : a ≤ n) (hb : b ≤ n) : (if p then a else b) ≤ n := by split <;> assumption
theorem tsz_le (s : List UInt8) : tsz s ≤ s.length := by
  rcases s with _ | ⟨c, _ | ⟨d, _ | ⟨e, _ | ⟨f, t⟩⟩⟩⟩
  · simp [tsz]
  all_goals
    simp only [tsz, atB, List.getElem?_cons_succ, List.getElem?_cons_zero, List.getElem?_nil, List.length_cons, List.length_nil, Bool.and_false, Bool.false_eq_true, if_false]
    repeat (refine ite_le (by omega) ?_)
    omega
theorem tsz_app (a b : List UInt8) (ha : a ≠ []) : tsz (a ++ 47 :: b) = tsz a := by
  have h1 : decide ((128 : UInt8) ≤ 47) = false := by decide
  have h2 : decide ((160 : UInt8) ≤ 47) = false := by decide
  have h3 : decide ((144 : UInt8) ≤ 47) = false := by decide
  rcases a with _ | ⟨c, _ | ⟨d, _ | ⟨e, _ | ⟨f, t⟩⟩⟩⟩
  · exact absurd rfl ha
  all_goals
    simp only [tsz, atB, List.cons_append, List.nil_append, List.getElem?_cons_succ, List.getElem?_cons_zero, List.getElem?_nil, h1, h2, h3, Bool.false_and, Bool.and_false, Bool.false_eq_true, if_false]
  rfl
theorem txt_more : ∀ (n m : Nat) (s : List UInt8), s.length ≤ n → s.length ≤ m → txt n s = txt m s := by
  intro n
  induction n with
  | zero =>
    intro m s h1 h2
    cases s with
    | nil => cases m <;> rfl
    | cons c s => simp at h1
  | succ n ih =>
    intro m s h1 h2
    cases s with
    | nil => cases m <;> rfl
    | cons c s =>
      cases m with
      | zero => simp at h2
      | succ m =>
        simp only [txt]
        by_cases h0 : tsz (c :: s) = 0
        · simp [h0]
        · rw [ih m _ (by simp only [List.length_drop]; simp at h1; simp; omega) (by simp only [List.length_drop]; simp at h2; simp; omega)]
theorem text_nil : text [] = true := rfl
theorem text_cons (s : List UInt8) (h : s ≠ []) : text s = (tsz s != 0 && text (s.drop (tsz s))) := by
  cases s with
  | nil => exact absurd rfl h
  | cons c s =>
    unfold text
    simp only [List.length_cons, txt]
    by_cases h0 : tsz (c :: s) = 0
    · simp [h0]
    · rw [txt_more _ ((c :: s).drop (tsz (c :: s))).length _ (by simp only [List.length_drop, List.length_cons]; omega) (Nat.le_refl _)]
/-- A stroke parts texts. -/
theorem text_cut (n : Nat) : ∀ (a b : List UInt8), a.length ≤ n → text (a ++ 47 :: b) = (text a && text b) := by
  induction n with
  | zero =>
    intro a b h
    have : a = [] := List.length_eq_zero_iff.1 (by omega)
    subst this
    rw [List.nil_append, text_cons _ (by simp), text_nil]
    have e : tsz (47 :: b) = 1 := by simp [tsz]
    rw [e]
    simp
  | succ n ih =>
    intro a b h
    cases a with
    | nil => exact ih [] b (by simp)
    | cons c a =>
      rw [text_cons (c :: a ++ 47 :: b) (by simp), tsz_app (c :: a) b (by simp), text_cons (c :: a) (by simp)]
      by_cases h0 : tsz (c :: a) = 0
      · simp [h0]
      · have hl := tsz_le (c :: a)
        rw [List.drop_append_of_le_length hl, ih _ b (by simp only [List.length_drop]; simp at h; simp; omega), Bool.and_assoc]
theorem text_two (a b : List UInt8) : text (a ++ 47 :: b) = (text a && text b) := text_cut a.length a b (Nat.le_refl _)
theorem text_jn : ∀ l : List (List UInt8), text (jn l) = l.all text
  | [] => rfl
  | [x] => by simp [jn]
  | x :: y :: r => by rw [jn_cons x (by simp), text_two, text_jn (y :: r)]; rfl
theorem text_lv (s : List UInt8) : text s = (lv s).all text := by rw [← text_jn, jn_lv]

/-- Names, clients, filters. -/
def nam (s : List UInt8) : Bool := decide (1 ≤ s.length) && decide (s.length ≤ 64) && text s && !sgn s
def cli (s : List UInt8) : Bool := decide (1 ≤ s.length) && decide (s.length ≤ 32) && text s
def fil (s : List UInt8) : Bool := decide (1 ≤ s.length) && decide (s.length ≤ 64) && text s && okF (lv s)
/-- The name is out of the filter's reach. -/
def far (f n : List UInt8) : Bool := n.head? == some 36 && (f.head? == some 43 || f.head? == some 35)
def mat (f n : List UInt8) : Bool := fil f && nam n && !far f n && mts (lv f) (lv n)
def cov (w n : List UInt8) : Bool := fil w && fil n && !far w n && cvs (lv w) (lv n)

theorem head_sgn {s : List UInt8} (h : sgn s = false) : s.head? ≠ some 43 ∧ s.head? ≠ some 35 := by
  cases s with
  | nil => simp
  | cons c s =>
    have hc : (c == 43 || c == 35) = false ∧ sgn s = false := by simpa [sgn] using h
    simp at hc
    simp [hc.1.1, hc.1.2]
theorem nam_fil {s : List UInt8} (h : nam s = true) : fil s = true := by
  simp only [nam, Bool.and_eq_true, Bool.not_eq_true'] at h
  simp only [fil, Bool.and_eq_true]
  exact ⟨h.1, okF_plain _ (sgn_lv s h.2)⟩
theorem far_plain {f n : List UInt8} (h : sgn f = false) : far f n = false := by
  have := head_sgn h
  simp [far, this.1, this.2]
theorem nam_sgn {s : List UInt8} (h : nam s = true) : sgn s = false := by
  simp only [nam, Bool.and_eq_true, Bool.not_eq_true'] at h
  exact h.2
/-- A topic meets itself, and no other. -/
theorem mat_self {a b : List UInt8} (ha : nam a = true) (hb : nam b = true) : mat a b = true ↔ a = b := by
  simp only [mat, nam_fil ha, hb, far_plain (nam_sgn ha), Bool.and_eq_true, Bool.not_false, true_and]
  rw [mts_plain _ _ (sgn_lv a (nam_sgn ha))]
  exact ⟨lv_inj, fun e => by rw [e]⟩
theorem fil_all : fil [35] = true := by decide
theorem mat_all {a : List UInt8} (ha : nam a = true) : mat [35] a = !(a.head? == some 36) := by
  have e : lv [35] = [[35]] := by decide
  simp [mat, fil_all, ha, far, e, mts]
theorem cov_self {b : List UInt8} (hb : fil b = true) : cov b b = true := by
  have : far b b = false := by
    unfold far
    cases h : b.head? with
    | none => rfl
    | some c =>
      by_cases e : c = 36
      · subst e; decide
      · simp [e]
  simp [cov, hb, this, cvs_self]

/-- The head of a text is the head of its first level, if that is not empty. -/
theorem head_lv {s : List UInt8} {x : List UInt8} {r : List (List UInt8)} (h : lv s = x :: r) {c : UInt8} (hc : c ≠ 47) : s.head? = some c ↔ x.head? = some c := by
  cases s with
  | nil => simp [lv] at h; simp [← h.1]
  | cons d s =>
    by_cases e : d = 47
    · subst e
      rw [lv_stroke] at h
      cases h
      simp [Ne.symm hc]
    · obtain ⟨y, q, e1, e2⟩ := lv_other e s
      rw [e2] at h
      cases h
      simp
theorem first_level {f : List UInt8} (hf : fil f = true) {x : List UInt8} {r : List (List UInt8)} (h : lv f = x :: r) (h43 : f.head? ≠ some 43) (h35 : f.head? ≠ some 35) : x ≠ [43] ∧ x ≠ [35] := by
  refine ⟨fun e => h43 ((head_lv h (by decide)).2 (by simp [e])), fun e => h35 ((head_lv h (by decide)).2 (by simp [e]))⟩
/-- What begins with $ is met by what begins with it alone. -/
theorem dollar_mts {f n : List UInt8} (hf : fil f = true) (hn : n.head? = some 36) (hfar : far f n = false) (hm : mts (lv f) (lv n) = true) : f.head? = some 36 := by
  have h43 : f.head? ≠ some 43 := fun e => by simp [far, hn, e] at hfar
  have h35 : f.head? ≠ some 35 := fun e => by simp [far, hn, e] at hfar
  cases e1 : lv f with
  | nil => exact absurd e1 (lv_ne f)
  | cons x r =>
    cases e2 : lv n with
    | nil => exact absurd e2 (lv_ne n)
    | cons y q =>
      obtain ⟨g1, g2⟩ := first_level hf e1 h43 h35
      rw [e1, e2] at hm
      simp [mts, g1, g2] at hm
      rw [head_lv e1 (by decide), hm.1, ← head_lv e2 (by decide)]
      exact hn
theorem dollar_cvs {f n : List UInt8} (hf : fil f = true) (hn : n.head? = some 36) (hfar : far f n = false) (hm : cvs (lv f) (lv n) = true) : f.head? = some 36 := by
  have h43 : f.head? ≠ some 43 := fun e => by simp [far, hn, e] at hfar
  have h35 : f.head? ≠ some 35 := fun e => by simp [far, hn, e] at hfar
  cases e1 : lv f with
  | nil => exact absurd e1 (lv_ne f)
  | cons x r =>
    cases e2 : lv n with
    | nil => exact absurd e2 (lv_ne n)
    | cons y q =>
      obtain ⟨g1, g2⟩ := first_level hf e1 h43 h35
      rw [e1, e2] at hm
      simp [cvs, g1, g2] at hm
      rw [head_lv e1 (by decide), hm.1, ← head_lv e2 (by decide)]
      exact hn
theorem far_of {f n : List UInt8} (h : n.head? = some 36 → ¬ (f.head? = some 43 ∨ f.head? = some 35)) : far f n = false := by
  unfold far
  by_cases e : n.head? = some 36
  · have := h e
    simp only [not_or] at this
    simp [this.1, this.2]
  · simp [e]
theorem far_no {f n : List UInt8} (h : far f n = false) (hn : n.head? = some 36) : ¬ (f.head? = some 43 ∨ f.head? = some 35) := by
  rintro (e | e) <;> simp [far, hn, e] at h
/-- WHAT COVERS MEETS. -/
theorem mat_cov {a b n : List UInt8} (h1 : cov a b = true) (h2 : mat b n = true) : mat a n = true := by
  simp only [cov, Bool.and_eq_true, Bool.not_eq_true'] at h1
  simp only [mat, Bool.and_eq_true, Bool.not_eq_true'] at h2 ⊢
  obtain ⟨⟨⟨fa, fb⟩, far1⟩, c1⟩ := h1
  obtain ⟨⟨⟨_, nn⟩, far2⟩, m2⟩ := h2
  have hsg := sgn_lv n (nam_sgn nn)
  refine ⟨⟨⟨fa, nn⟩, far_of fun hn => far_no far1 (dollar_mts fb hn far2 m2)⟩, mts_cvs _ _ _ (fun y hy e => ?_) c1 m2⟩
  have := hsg y hy
  rw [e] at this
  cases this
theorem cov_cov {a b c : List UInt8} (h1 : cov a b = true) (h2 : cov b c = true) : cov a c = true := by
  simp only [cov, Bool.and_eq_true, Bool.not_eq_true'] at h1 h2 ⊢
  obtain ⟨⟨⟨fa, fb⟩, far1⟩, c1⟩ := h1
  obtain ⟨⟨⟨_, fc⟩, far2⟩, m2⟩ := h2
  exact ⟨⟨⟨fa, fc⟩, far_of fun hn => far_no far1 (dollar_cvs fb hn far2 m2)⟩, cvs_cvs _ _ _ c1 m2⟩
/-- Wider. -/
theorem mat_wider {f n : List UInt8} {i : Nat} (hm : mat f n = true) (hn : n.head? ≠ some 36) (hi : (lv f)[i]? ≠ some [35]) (hl : i < (lv f).length) (h64 : (jn ((lv f).set i [43])).length ≤ 64) : mat (jn ((lv f).set i [43])) n = true := by
  simp only [mat, Bool.and_eq_true, Bool.not_eq_true'] at hm ⊢
  obtain ⟨⟨⟨ff, nn⟩, _⟩, m⟩ := hm
  have hne : (lv f).set i [43] ≠ [] := by
    intro e
    have := congrArg List.length e
    simp at this
    exact absurd this (by have := lv_ne f; simpa using this)
  have hmem : ∀ x ∈ (lv f).set i [43], x = [43] ∨ x ∈ lv f := fun x hx => by
    rcases List.mem_or_eq_of_mem_set hx with q | q
    · exact .inr q
    · exact .inl q
  have hlv : lv (jn ((lv f).set i [43])) = (lv f).set i [43] := lv_jn _ hne fun x hx => by
    rcases hmem x hx with q | q
    · subst q; decide
    · exact lv_free f x q
  have hpos : 1 ≤ (jn ((lv f).set i [43])).length := by
    rcases Nat.eq_zero_or_pos (jn ((lv f).set i [43])).length with q | q
    · have e : jn ((lv f).set i [43]) = [] := List.length_eq_zero_iff.1 q
      rw [e] at hlv
      have h43 : ((lv f).set i [43])[i]? = some [43] := by rw [List.getElem?_set_self hl]
      rw [← hlv] at h43
      simp [lv] at h43
      cases i <;> simp at h43
    · exact q
  simp only [fil, Bool.and_eq_true, decide_eq_true_eq] at ff ⊢
  refine ⟨⟨⟨⟨⟨⟨hpos, h64⟩, ?_⟩, ?_⟩, nn⟩, far_of fun e => absurd e hn⟩, ?_⟩
  · rw [text_jn, List.all_eq_true]
    intro x hx
    rcases hmem x hx with q | q
    · subst q; decide
    · have := ff.1.2
      rw [text_lv, List.all_eq_true] at this
      exact this x q
  · rw [hlv]; exact okF_set _ i ff.2 hi
  · rw [hlv]; exact mts_wider _ _ i hi m
/-- A name and /#. -/
theorem fil_below {s : List UInt8} (h : nam s = true) (h64 : s.length + 2 ≤ 64) : fil (s ++ [47, 35]) = true := by
  have hs := nam_sgn h
  simp only [nam, Bool.and_eq_true, decide_eq_true_eq] at h
  have e : lv (s ++ [47, 35]) = lv s ++ [[35]] := lv_two s [35]
  have t : text (s ++ [47, 35]) = true := by
    have := text_two s [35]
    rw [this, h.1.2]
    decide
  simp only [fil, Bool.and_eq_true, decide_eq_true_eq]
  refine ⟨⟨⟨by simp, by simp; omega⟩, t⟩, ?_⟩
  rw [e]
  exact okF_wild _ (sgn_lv s hs)
theorem head_app {s t : List UInt8} (h : s ≠ []) : (s ++ t).head? = s.head? := by
  cases s with
  | nil => exact absurd rfl h
  | cons c s => rfl
theorem below_iff {s o : List UInt8} : (∃ r, lv o = lv s ++ r) ↔ (o = s ∨ ∃ t, o = s ++ 47 :: t) := by
  constructor
  · rintro ⟨r, e⟩
    cases r with
    | nil => rw [List.append_nil] at e; exact .inl (lv_inj e)
    | cons x r =>
      right
      refine ⟨jn (x :: r), lv_inj ?_⟩
      rw [lv_two, e, lv_jn (x :: r) (by simp) fun y hy => lv_free o y (by rw [e]; simp at hy ⊢; exact .inr hy)]
  · rintro (e | ⟨t, e⟩)
    · exact ⟨[], by rw [e, List.append_nil]⟩
    · exact ⟨lv t, by rw [e, lv_two]⟩
theorem mat_below {s o : List UInt8} (hs : nam s = true) (ho : nam o = true) (h64 : s.length + 2 ≤ 64) : mat (s ++ [47, 35]) o = true ↔ (o = s ∨ ∃ t, o = s ++ 47 :: t) := by
  have e : lv (s ++ [47, 35]) = lv s ++ [[35]] := lv_two s [35]
  have hne : s ≠ [] := fun q => by subst q; simp [nam] at hs
  have hf : far (s ++ [47, 35]) o = false := far_of fun _ => by
    rw [head_app hne]
    have := head_sgn (nam_sgn hs)
    simp [this.1, this.2]
  simp only [mat, fil_below hs h64, ho, hf, Bool.and_eq_true, Bool.not_false, true_and, e]
  rw [mts_below _ _ (sgn_lv s (nam_sgn hs)), below_iff]
theorem cov_below {s o : List UInt8} (hs : nam s = true) (ho : fil o = true) (h64 : s.length + 2 ≤ 64) (hb : o = s ∨ ∃ t, o = s ++ 47 :: t) : cov (s ++ [47, 35]) o = true := by
  have e : lv (s ++ [47, 35]) = lv s ++ [[35]] := lv_two s [35]
  have hne : s ≠ [] := fun q => by subst q; simp [nam] at hs
  have hf : far (s ++ [47, 35]) o = false := far_of fun _ => by
    rw [head_app hne]
    have := head_sgn (nam_sgn hs)
    simp [this.1, this.2]
  obtain ⟨r, er⟩ := below_iff.2 hb
  simp only [cov, fil_below hs h64, ho, hf, Bool.and_eq_true, Bool.not_false, true_and, e, er]
  exact cvs_below _ _
end Go.Proofs.YtlbbaniehkghdabDoor
