import Derived.Test.YtligofmcmjblpaaGreatPk08
import Derived.Test.YtligofmcmjblpaaGreatPk09
/- The document's own disk: Read, ReadAt, List, New. -/
namespace Go.Proofs.YtligofmcmjblpaaGreat
open Go.RowKit
set_option linter.unusedVariables false
set_option linter.unusedSimpArgs false

set_option maxHeartbeats 1000000 in
set_option maxRecDepth 100000 in
theorem rread_any (p : Nat) (σ : DS) (F A : Nat → Prop) (loc : Nat → Nat) (lv wv : Value) (s : ByteArray) (w : World) (h : RefAt w p σ F A loc lv wv) (hi : Inv σ) :
    Calls Tryz.prog 15 #[ptr p, .string s] w fun e w' => ∃ v, e = .returned (.tuple #[v, .int .i64 (σ.read s).2]) ∧ Row w.heap.size w' v ((σ.read s).1.getD []) ∧ Below w.heap.size w w' := by
  have c7 := cell_of h.blk 7
  simp only [List.getElem?_toArray, List.getElem?_cons_succ, List.getElem?_cons_zero] at c7
  cases ho : σ.c.off with
  | true =>
    have hr : σ.read s = (none, 10) := by rw [DS.read, ho]; rfl
    rw [hr]
    rw [ho] at c7
    unfold ptr
    clear hr h hi
    go_enter Tryz.func15, Tryz.ntmps15
    go_wp2_with fail
    go_ret2
    exact ⟨_, rfl, Row.nil _ _, Below.refl _ _⟩
  | false =>
    rw [ho] at c7
    have k4 := rfind_any p σ.room lv wv σ.c F loc σ.dir s w h.blk h.dir (by have := hi.dn; omega)
    cases hf : fnd σ.dir s with
    | none =>
      have hr : σ.read s = (none, 7) := by rw [DS.read, ho, hf]; rfl
      rw [hr]
      rw [hf] at k4
      simp only [optp] at k4
      unfold ptr at *
      clear hr h hi
      go_enter Tryz.func15, Tryz.ntmps15
      go_wp2_with (go_at_call 47; refine k4.mono ?_; rintro e w4 ⟨rfl, hb4⟩)
      go_ret2
      exact ⟨_, rfl, Row.nil _ _, hb4⟩
    | some i =>
      obtain ⟨data, sure, hds⟩ : ∃ data sure, σ.fl i = (data, sure) := ⟨_, _, rfl⟩
      have hif := hi.fl i
      rw [hds] at hif
      have hr : σ.read s = (some data, 0) := by rw [DS.read, ho, hf]; simp only [hds]; rfl
      rw [hr]
      rw [hf] at k4
      simp only [optp] at k4
      have HA : A i := by obtain ⟨a, ha⟩ := fnd_mem hf; exact h.al i (.inl ⟨a, ha⟩)
      obtain ⟨ao, cap, x1, x2, x3, x4, x5, x6, x7, y0, y1, y2, y3⟩ := file_facts h HA data sure hds hif.2.2
      have HX : Hid ((ao = none → data.length = 0 ∧ cap = 0) ∧ Byt w ao data.length (xof data) ∧ Okb data ∧ data.length ≤ 4194304) := ⟨x4, x7, hif.2.2, hif.1⟩
      unfold ptr at *
      clear hr h hi x1 x2 x3 x4 x5 x6 x7 hif hds hf ho y1 y2 y3 HA
      go_enter Tryz.func15, Tryz.ntmps15
      go_wp2_with (first | (go_at_call 47; refine k4.mono ?_; rintro e w4 ⟨rfl, hb4⟩; have y5 := cell_later hb4 y0) | (at_builtin; refine wpList_app rfl (.const (.slice none 0 0)) (.tmp 19) rfl w.heap.size _ [] rfl (Row.nil _ _) ao data.length cap (xof data) rfl HX.out.1 (HX.out.2.1.later hb4) (by have := HX.out.2.2.2; simp; omega) hb4.size ?_; intro v6 w6 r6 g6 m6; have b6 := grown_none g6))
      go_ret2
      refine ⟨_, rfl, ?_, hb4.trans (b6.mono hb4.size)⟩
      rw [List.nil_append, bs_xof HX.out.2.2.1] at r6
      exact r6

theorem read_cases (σ : DS) (s : ByteArray) : ((σ.read s).2 = 10 ∧ (σ.read s).1 = none) ∨ ((σ.read s).2 = 7 ∧ (σ.read s).1 = none) ∨ (σ.read s).2 = 0 := by
  unfold DS.read
  split
  · exact .inl ⟨rfl, rfl⟩
  · split
    · exact .inr (.inl ⟨rfl, rfl⟩)
    · exact .inr (.inr rfl)
theorem read_ok {σ : DS} (hi : Inv σ) (s : ByteArray) : Okb ((σ.read s).1.getD []) ∧ ((σ.read s).1.getD []).length ≤ 4194304 := by
  unfold DS.read
  split
  · exact ⟨fun x hx => by simp at hx, by simp⟩
  · split
    · exact ⟨fun x hx => by simp at hx, by simp⟩
    · next i _ => exact ⟨(hi.fl i).2.2, (hi.fl i).1⟩
/-- A piece of a row that is read. -/
theorem bs_piece (xs : List Int) (h : Okb xs) (a n : Nat) (hl : a + n ≤ xs.length) : bs (fun k => xof xs (a + k)) n = (xs.drop a).take n := by
  apply List.ext_getElem
  · simp [bs_length]; omega
  · intro i h1 h2
    simp [bs_length] at h1
    have hx : a + i < xs.length := by omega
    have := h xs[a + i] (List.getElem_mem hx)
    simp [bs, xof, hx]
    omega
theorem byt_piece {w : World} {ao : Option Addr} {len : Nat} {X : Nat → Nat} (h : Byt w ao len X) (a n : Nat) (hl : a + n ≤ len) {b off : Nat} (he : ao = some ⟨b, off, none⟩) : Byt w (some ⟨b, off + a, none⟩) n (fun k => X (a + k)) := fun k hk => by
  obtain ⟨h1, b', off', e, hc⟩ := h (a + k) (by omega)
  rw [he] at e
  simp only [Option.some.injEq, Addr.mk.injEq, and_true] at e
  obtain ⟨rfl, rfl⟩ := e
  exact ⟨h1, b, off + a, rfl, by rw [Nat.add_assoc]; exact hc⟩

set_option maxHeartbeats 1000000 in
set_option maxRecDepth 100000 in
theorem rreadAt_any (p : Nat) (σ : DS) (F A : Nat → Prop) (loc : Nat → Nat) (lv wv : Value) (s : ByteArray) (at_ n : Int) (w : World) (h : RefAt w p σ F A loc lv wv) (hi : Inv σ) (ha : -9223372036854775808 ≤ at_ ∧ at_ ≤ 9223372036854775807) (hn : -9223372036854775808 ≤ n ∧ n ≤ 9223372036854775807) :
    Calls Tryz.prog 13 #[ptr p, .string s, .int .i64 at_, .int .i64 n] w fun e w' => ∃ ao m c Y, e = .returned (.tuple #[.slice ao m c, .int .i64 (σ.readAt s at_ n).2]) ∧ (ao = none → m = 0 ∧ c = 0) ∧ Byt w' ao m Y ∧ bs Y m = (σ.readAt s at_ n).1 ∧ Below w.heap.size w w' := by
  have k1 := rread_any p σ F A loc lv wv s w h hi
  have hok := read_ok hi s
  have HNIL : Hid (∀ w' : World, Byt w' none 0 (fun _ => 0)) := fun w' k hk => by omega
  clear h hi
  rcases read_cases σ s with ⟨hE, hN⟩ | ⟨hE, hN⟩ | hE
  · have hr : σ.readAt s at_ n = ([], 10) := by rw [DS.readAt, hE]; rfl
    rw [hr]
    rw [hE] at k1
    unfold ptr at *
    clear hr hE hN hok
    go_enter Tryz.func13, Tryz.ntmps13
    go_wp2_with (go_at_call 15; refine k1.mono ?_; rintro e w1 ⟨v1, rfl, r1, b1⟩)
    go_ret2
    exact ⟨_, _, _, _, rfl, fun _ => ⟨rfl, rfl⟩, HNIL.out _, rfl, b1⟩
  · have hr : σ.readAt s at_ n = ([], 7) := by rw [DS.readAt, hE]; rfl
    rw [hr]
    rw [hE] at k1
    unfold ptr at *
    clear hr hE hN hok
    go_enter Tryz.func13, Tryz.ntmps13
    go_wp2_with (go_at_call 15; refine k1.mono ?_; rintro e w1 ⟨v1, rfl, r1, b1⟩)
    go_ret2
    exact ⟨_, _, _, _, rfl, fun _ => ⟨rfl, rfl⟩, HNIL.out _, rfl, b1⟩
  · rw [hE] at k1
    have hra : σ.readAt s at_ n = if at_ < 0 ∨ n < 0 then ([], 1) else if (((σ.read s).1.getD []).length : Int) < at_ ∨ (((σ.read s).1.getD []).length : Int) - at_ < n then ([], 5) else ((((σ.read s).1.getD []).drop at_.toNat).take n.toNat, 0) := by rw [DS.readAt, hE]; rfl
    rw [hra]
    clear hra hE
    generalize (σ.read s).1.getD [] = xs at k1 hok ⊢
    have HO : Hid (Okb xs) := hok.1
    obtain ⟨D, hD⟩ : ∃ D, D = xs.length := ⟨_, rfl⟩
    have HD : Hid (D = xs.length) := hD
    have hDl : D ≤ 4194304 := by rw [hD]; exact hok.2
    rw [← hD]
    clear hD hok
    by_cases q1 : at_ < 0
    · rw [if_pos (.inl q1)]
      unfold ptr at *
      go_enter Tryz.func13, Tryz.ntmps13
      go_wp2_with (go_at_call 15; refine k1.mono ?_; rintro e w1 ⟨v1, rfl, r1, b1⟩)
      go_ret2
      exact ⟨_, _, _, _, rfl, fun _ => ⟨rfl, rfl⟩, HNIL.out _, rfl, b1⟩
    · have d1 : decide (at_ < 0) = false := decide_eq_false q1
      have p1 : 0 ≤ at_ := by omega
      by_cases q2 : n < 0
      · rw [if_pos (.inr q2)]
        unfold ptr at *
        go_enter Tryz.func13, Tryz.ntmps13
        go_wp2_with (go_at_call 15; refine k1.mono ?_; rintro e w1 ⟨v1, rfl, r1, b1⟩)
        go_ret2
        exact ⟨_, _, _, _, rfl, fun _ => ⟨rfl, rfl⟩, HNIL.out _, rfl, b1⟩
      · have d2 : decide (n < 0) = false := decide_eq_false q2
        have p2 : 0 ≤ n := by omega
        rw [if_neg (by omega)]
        obtain ⟨a, rfl⟩ := Int.eq_ofNat_of_zero_le p1
        obtain ⟨m, rfl⟩ := Int.eq_ofNat_of_zero_le p2
        clear ha hn q1 q2 d1 d2 p1 p2
        by_cases q3 : (D : Int) < (a : Int)
        · rw [if_pos (.inl q3)]
          unfold ptr at *
          go_enter Tryz.func13, Tryz.ntmps13
          go_wp2_with (go_at_call 15; refine k1.mono ?_; rintro e w1 ⟨v1, rfl, r1, b1⟩; obtain ⟨ao, cap, rfl, x4, x5, x6, x7⟩ := r1.byt HO.out; rw [← HD.out])
          go_ret2
          exact ⟨_, _, _, _, rfl, fun _ => ⟨rfl, rfl⟩, HNIL.out _, rfl, b1⟩
        · have d3 : decide ((D : Int) < (a : Int)) = false := decide_eq_false q3
          have p3 : a ≤ D := by omega
          have e3 : IntKind.i64.wrap ((D : Int) - (a : Int)) = (D : Int) - (a : Int) := by rw [wrapEq]; unfold wrap64; omega
          by_cases q4 : (D : Int) - (a : Int) < (m : Int)
          · rw [if_pos (.inr q4)]
            unfold ptr at *
            clear q3
            go_enter Tryz.func13, Tryz.ntmps13
            go_wp2_with (go_at_call 15; refine k1.mono ?_; rintro e w1 ⟨v1, rfl, r1, b1⟩; obtain ⟨ao, cap, rfl, x4, x5, x6, x7⟩ := r1.byt HO.out; rw [← HD.out])
            go_ret2
            exact ⟨_, _, _, _, rfl, fun _ => ⟨rfl, rfl⟩, HNIL.out _, rfl, b1⟩
          · have d4 : decide ((D : Int) - (a : Int) < (m : Int)) = false := decide_eq_false q4
            rw [if_neg (by omega)]
            have p4 : a + m ≤ D := by omega
            unfold ptr at *
            clear q3 q4
            go_enter Tryz.func13, Tryz.ntmps13
            go_wp2_with (go_at_call 15; refine k1.mono ?_; rintro e w1 ⟨v1, rfl, r1, b1⟩; obtain ⟨ao, cap, rfl, x4, x5, x6, x7⟩ := r1.byt HO.out; rw [← HD.out]; rw [← HD.out] at x4 x5 x7)
            · go_ret2
              refine ⟨_, _, _, rfl, fun _ => ⟨by omega, rfl⟩, fun _ => 0, fun k hk => by omega, ?_, b1⟩
              obtain rfl : m = 0 := by omega
              simp [bs]
            · go_ret2
              have hal : a + m ≤ xs.length := by rw [← HD.out]; exact p4
              refine ⟨_, _, _, rfl, fun e => ?_, fun k => xof xs (a + k), fun k hk => ?_, bs_piece xs HO.out a m hal, b1⟩
              · cases ao with
                | none => have := x4 rfl; omega
                | some ad => cases e
              · obtain ⟨_, b, off, e, _⟩ := x7 0 (by omega)
                subst e
                have e2 : Option.map (fun x : Addr => x.add a) (some ⟨b, off, none⟩) = some ⟨b, off + a, none⟩ := by simp [Addr.add_lit]
                rw [e2]
                exact byt_piece x7 a m p4 rfl k hk

theorem _root_.Go.Proofs.Tryz.info9 : (Tryz.prog.info? 9).map (fun i => (i.zero, i.size, i.bytes)) = some (some (.string ⟨#[]⟩), 1, 16) := by kernel_rfl
theorem RowS.nil (B : Nat) (w : World) : RowS B w (.slice none 0 0) [] := World.ownsRow_nil w B 9 1
theorem RowS.slice {B : Nat} {w : World} {v : Value} {xs : List ByteArray} (h : RowS B w v xs) : ∃ ao n c, v = .slice ao n c := by
  rcases h.2 with ⟨rfl, _⟩ | ⟨g, cap, cur, rfl, _⟩
  · exact ⟨_, _, _, rfl⟩
  · exact ⟨_, _, _, rfl⟩
/-- One string appended. -/
theorem wpList_appS {w : World} {ops : Array Oper} {rest : List Oper} {o : Oper} {a : Act} {Q : Exit → Act → World → Prop} {s x : Operand} {B : Nat} {v : Value} {xs : List ByteArray} {y : ByteArray} (hgd : o.guard = none)
    (ho : o.op = .call { callee := .builtin .append, args := #[s, x], argTypes := #[65, 65] }) (hs : a.eval s = v) (g : Nat) (hx : a.eval x = .slice (some ⟨g, 0, none⟩) 1 1) (hg : g = w.heap.size) (hrow : RowS B w v xs) (hb : xs.length + 1 ≤ 1099511627776) (hB : B ≤ w.heap.size)
    (h : ∀ v' w', RowS B w' v' (xs ++ [y]) → Below B w w' → wpList Tryz.prog ops Q rest (a.put o.dst v') w') : wpList Tryz.prog ops Q (o :: rest) a (w.alloc (.cells #[.string y] 9)) := by
  subst hg
  obtain ⟨i, hi, hz, hsize, hbytes⟩ := info_parts Tryz.info9
  have hrow' : RowS B (w.alloc (.cells #[.string y] 9)) v xs := World.ownsRow.alloc hrow _
  have hB' : B ≤ (w.alloc (.cells #[.string y] 9)).heap.size := by simp; omega
  refine wpList_append_own (P := Tryz.prog) (w.alloc (.cells #[.string y] 9)) hgd s x 65 ho B 9 i _ 1 16 Tryz.underlying65 hi hz hsize hbytes rfl (by decide) v xs.length _ hs hrow' ⟨w.heap.size, 0, none⟩ 1 1 [.string y] hx rfl ?_ ?_ (by simp only [maxLen]; omega) (by omega) hB' fun v' w' h1 h2 h3 => h v' w' ?_ ?_
  · intro j u hu
    have hj : j = 0 := by
      cases j with
      | zero => rfl
      | succ j => simp at hu
    subst hj
    simp at hu
    rw [← hu]
    simp [Addr.add]
  · intro u hu
    simp at hu
    subst hu
    rfl
  · unfold RowS
    rw [List.map_append, List.length_append]
    exact h1
  · exact ((Below.refl B w).alloc hB _).trans (Below.grown (Below.refl _ _) h2 hB' (fun k hk => (World.ownsRow.lt hrow' k hk).1))

set_option maxHeartbeats 1000000 in
set_option maxRecDepth 100000 in
theorem rlist_any (p : Nat) (σ : DS) (F A : Nat → Prop) (loc : Nat → Nat) (lv wv : Value) (w : World) (h : RefAt w p σ F A loc lv wv) (hi : Inv σ) :
    Calls Tryz.prog 39 #[ptr p] w fun e w' => ∃ v, e = .returned v ∧ RowS w.heap.size w' v σ.list ∧ Below w.heap.size w w' := by
  obtain ⟨ao, cap, rfl, hlc, hcm, hnil, hcell⟩ := h.dir.cells
  have c1 := cell_of h.blk 1
  have c7 := cell_of h.blk 7
  simp only [List.getElem?_toArray, List.getElem?_cons_succ, List.getElem?_cons_zero] at c1 c7
  obtain ⟨n, hnn⟩ : ∃ n, n = σ.dir.length := ⟨_, rfl⟩
  have HC : Hid (∀ k, k < n → ∃ g a i, ao = some ⟨g, 0, none⟩ ∧ σ.dir[k]? = some (a, i) ∧ w.cell? ⟨g, k * 2, none⟩ = some (.string a) ∧ w.cell? ⟨g, k * 2 + 1, none⟩ = some (.pointer (some ⟨loc i, 0, none⟩))) := fun k hk => by
    obtain ⟨g, a, i, e, xk, xd, x1, x2⟩ := hcell k (by omega)
    exact ⟨g, a, i, e, xk, x1, x2⟩
  have HN : Hid (n = σ.dir.length ∧ n ≤ 1048576) := ⟨hnn, by have := hi.dn; omega⟩
  have hn' : n ≤ 1048576 := HN.out.2
  rw [← hnn] at c1
  have hsl : σ.list = if σ.c.off = true then [] else σ.dir.map (·.1) := rfl
  rw [hsl]
  clear h hi hlc hcm hnil hcell hnn hsl
  unfold ptr
  cases ho : σ.c.off with
  | true =>
    rw [ho] at c7
    simp only [if_true]
    go_enter Tryz.func39, Tryz.ntmps39
    go_wp2_with fail
    go_loopg [3, 11] n (fun g v i wr => ∃ k : Nat, k + g = n ∧ i = .int .i64 (k : Int) ∧ v = .slice none 0 0 ∧ Below w.heap.size w wr)
    case atStart => exact ⟨0, by omega, rfl, rfl, Below.refl _ _⟩
    case round =>
      obtain ⟨k, hk, rfl, rfl, hw⟩ := hrel
      by_cases h : k < n
      · have h' : (k : Int) < (n : Int) := by omega
        obtain ⟨g, a, i, rfl, xk, x1, x2⟩ := HC.out k h
        have y1 := cell_later hw x1
        have y2 := cell_later hw x2
        have y7 := cell_later hw c7
        have yp := block_lt_of_cell y7
        obtain ⟨GK, HG⟩ : ∃ g, Hid (g < gk ∧ k + 1 + g = n) := ⟨gk - 1, by omega, by omega⟩
        have HW : Hid (Below w.heap.size w wr) := hw
        clear hk x1 x2 hw xk
        go_wp2_with fail
        go_roundg GK
        case measure => exact HG.out.1
        case rel => exact ⟨k + 1, HG.out.2, by go_num, rfl, HW.out.alloc HW.out.size _⟩
      · have h' : (n : Int) ≤ (k : Int) := by omega
        go_wp2_with fail
        go_ret
        exact ⟨_, rfl, RowS.nil _ _, hw⟩
  | false =>
    rw [ho] at c7
    simp only [Bool.false_eq_true, if_false]
    go_enter Tryz.func39, Tryz.ntmps39
    go_wp2_with fail
    go_loopg [3, 11] n (fun g v i wr => ∃ k : Nat, k + g = n ∧ i = .int .i64 (k : Int) ∧ Below w.heap.size w wr ∧ Hid (RowS w.heap.size wr v ((σ.dir.take k).map (·.1))))
    case atStart => exact ⟨0, by omega, rfl, Below.refl _ _, RowS.nil _ _⟩
    case round =>
      obtain ⟨k, hk, rfl, hw, HT⟩ := hrel
      by_cases h : k < n
      · have h' : (k : Int) < (n : Int) := by omega
        obtain ⟨g, a, i, rfl, xk, x1, x2⟩ := HC.out k h
        have y1 := cell_later hw x1
        have y2 := cell_later hw x2
        have y7 := cell_later hw c7
        have yp := block_lt_of_cell y7
        obtain ⟨GK, HG⟩ : ∃ g, Hid (g < gk ∧ k + 1 + g = n) := ⟨gk - 1, by omega, by omega⟩
        have HW : Hid (Below w.heap.size w wr) := hw
        have HL : Hid (((σ.dir.take k).map (·.1)).length + 1 ≤ 1099511627776) := by show _ + 1 ≤ _; rw [List.length_map, List.length_take]; omega
        have HS : Hid ((σ.dir.take (k + 1)).map (·.1) = (σ.dir.take k).map (·.1) ++ [a]) := by show _ = _; rw [take_snoc xk, List.map_append]; rfl
        clear hk x1 x2 hw xk
        go_wp2_with (at_builtin; refine wpList_appS (s := .tmp 20) (x := .tmp 23) rfl rfl rfl _ rfl (by simp) (World.ownsRow.alloc HT.out _) HL.out (by have := HW.out.size; simp; omega) ?_; intro v5 w5 hr5 hb5)
        go_roundg GK
        case measure => exact HG.out.1
        case rel => exact ⟨k + 1, HG.out.2, by go_num, (HW.out.alloc HW.out.size _).trans hb5, by show RowS _ _ _ _; rw [HS.out]; exact hr5⟩
      · have h' : (n : Int) ≤ (k : Int) := by omega
        have ht := HT.out
        rw [List.take_of_length_le (by have := HN.out; omega)] at ht
        have HT2 : Hid (RowS w.heap.size wr u3 (σ.dir.map (·.1))) := ht
        clear ht HT
        go_wp2_with fail
        go_ret
        exact ⟨_, rfl, HT2.out, hw⟩
end Go.Proofs.YtligofmcmjblpaaGreat

/- The document's own disk: New, Spoil. -/
namespace Go.Proofs.YtligofmcmjblpaaGreat
open Go.RowKit
set_option linter.unusedVariables false
set_option linter.unusedSimpArgs false

set_option maxHeartbeats 1000000 in
theorem rnew_any (room : Int) (w : World) : Calls Tryz.prog 7 #[.int .i64 room] w fun e w' => ∃ p F A loc lv wv, e = .returned (ptr p) ∧ RefAt w' p (DS.new room) F A loc lv wv ∧ (∀ k, F k → w.heap.size ≤ k) ∧ Below w.heap.size w w' := by
  have HE : Hid (∀ R : Int, max 0 room = R → ∃ p F A loc lv wv, ptr (w.heap.size + 1) = ptr p ∧ RefAt ((w.alloc (.cells #[.slice none 0 0] 53)).alloc (.cells #[.int .i64 R, .slice none 0 0, .slice (some ⟨w.heap.size, 0, none⟩) 1 1, .int .i64 0, .int .i64 0, .int .i64 0, .int .i64 0, .bool false] 55)) p (DS.new room) F A loc lv wv ∧ (∀ k, F k → w.heap.size ≤ k) ∧ Below w.heap.size w ((w.alloc (.cells #[.slice none 0 0] 53)).alloc (.cells #[.int .i64 R, .slice none 0 0, .slice (some ⟨w.heap.size, 0, none⟩) 1 1, .int .i64 0, .int .i64 0, .int .i64 0, .int .i64 0, .bool false] 55))) := by
    intro R hR
    have hb : Below w.heap.size w (w.alloc (.cells #[.slice none 0 0] 53)) := (Below.refl _ _).alloc (Nat.le_refl _) _
    refine ⟨w.heap.size + 1, fun k => k = w.heap.size ∨ k = w.heap.size + 1, fun _ => False, fun _ => 0, .slice none 0 0, .slice (some ⟨w.heap.size, 0, none⟩) 1 1, rfl, ⟨.inr rfl, ?_, ⟨World.ownsRow_nil _ _ _ _, fun g e => by cases e⟩, ⟨[.slice none 0 0], ⟨rfl, .inr ⟨w.heap.size, 1, #[.slice none 0 0], rfl, Nat.zero_le _, ?_, Nat.le_refl _, by decide, rfl, rfl⟩⟩, fun g e => ?_, rfl, fun k x l hx hl => ?_⟩, fun i hi => hi.elim, fun i j hi => hi.elim, fun k hk => ?_, fun i hi => ?_, fun i hi => hi.elim⟩, fun k hk => ?_, hb.alloc hb.size _⟩
    · have := heap_alloc_new (w.alloc (.cells #[.slice none 0 0] 53)) (.cells #[.int .i64 R, .slice none 0 0, .slice (some ⟨w.heap.size, 0, none⟩) 1 1, .int .i64 0, .int .i64 0, .int .i64 0, .int .i64 0, .bool false] 55)
      unfold Dk
      rw [show (w.alloc (.cells #[.slice none 0 0] 53)).heap.size = w.heap.size + 1 by simp] at this
      rw [this, ← hR]
      rfl
    · rw [Below.heap_alloc _ _ _ (by simp), heap_alloc_new]
    · simp only [Value.ownBlock, Option.some.injEq] at e
      exact .inl e.symm
    · have hk : k = 0 := by have := (List.getElem?_eq_some_iff.1 hx).1; simp at this; exact this
      subst hk
      simp [DS.new] at hx hl
      subst hx
      subst hl
      exact ⟨World.ownsRow_nil _ _ _ _, fun g e => by cases e⟩
    · simp
      omega
    · rcases hi with ⟨s, hs⟩ | ⟨l, hl, s, hs⟩
      · simp [DS.new] at hs
      · simp [DS.new] at hl
        subst hl
        simp at hs
    · omega
  unfold ptr at *
  by_cases q : 0 < room
  · have e : max 0 room = room := by omega
    have HE2 := Hid.intro (HE.out room e)
    clear HE e
    go_enter Tryz.func7, Tryz.ntmps7
    go_wp2_with fail
    go_ret
    exact HE2.out.imp fun p ⟨F, A, loc, lv, wv, e, r⟩ => ⟨F, A, loc, lv, wv, by rw [← e]; rfl, r⟩
  · have q' : room ≤ 0 := by omega
    have e : max 0 room = 0 := by omega
    have HE2 := Hid.intro (HE.out 0 e)
    clear HE e q
    go_enter Tryz.func7, Tryz.ntmps7
    go_wp2_with fail
    go_ret
    exact HE2.out.imp fun p ⟨F, A, loc, lv, wv, e, r⟩ => ⟨F, A, loc, lv, wv, by rw [← e]; rfl, r⟩

/-- A byte of a row of one's own is written. -/
theorem Row.set {B : Nat} {w : World} {g n c : Nat} {xs : List Int} (h : Row B w (.slice (some ⟨g, 0, none⟩) n c) xs) (k : Nat) (hk : k < xs.length) (x : Int) : Row B (w.setCell ⟨g, k, none⟩ (.int .u8 x)) (.slice (some ⟨g, 0, none⟩) n c) (xs.set k x) := by
  rcases h.2 with ⟨e, _⟩ | ⟨g', cap, cur, e, hb, hg, h1, h2, h3, h4⟩
  · cases e
  · simp only [Value.slice.injEq, Option.some.injEq, Addr.mk.injEq, and_true] at e
    obtain ⟨rfl, rfl, rfl⟩ := e
    refine ⟨by simp, .inr ⟨g, c, cur.setIfInBounds k (.int .u8 x), ?_, hb, heap_set hg k _, ?_, h2, by simpa using h3, ?_⟩⟩
    · rw [List.length_set]
    · rw [List.length_set]; exact h1
    · rw [Array.toList_setIfInBounds, List.length_set, List.map_set, ← h4, List.take_set]
theorem Row.full {B : Nat} {w : World} {v : Value} {xs : List Int} (h : Row B w v xs) (hp : 0 < xs.length) : ∃ g c, v = .slice (some ⟨g, 0, none⟩) xs.length c ∧ B ≤ g ∧ xs.length ≤ c ∧ c ≤ maxLen ∧ (∀ k (hk : k < xs.length), w.cell? ⟨g, k, none⟩ = some (.int .u8 xs[k])) ∧ ∀ k, w.frozen? ⟨g, k, none⟩ = false := by
  have hcells : ∀ g, v.ownBlock = some g → _ := fun g hg => World.ownsRow.cells h (g := g) hg
  rcases h.2 with ⟨e, h0⟩ | ⟨g, cap, cur, rfl, hb, hg, h1, h2, h3, h4⟩
  · omega
  · refine ⟨g, cap, rfl, hb, h1, h2, fun k hk => ?_, fun k => frozen_of hg k⟩
    have := hcells g rfl k (.int .u8 xs[k]) (by simp [List.getElem?_eq_getElem hk])
    rw [Addr.add_lit, Nat.zero_add] at this
    exact this

set_option maxHeartbeats 1000000 in
set_option maxRecDepth 100000 in
theorem rspoil_any (p : Nat) (σ : DS) (F A : Nat → Prop) (loc : Nat → Nat) (lv wv : Value) (s : ByteArray) (at_ x : Int) (w : World) (h : RefAt w p σ F A loc lv wv) (hi : Inv σ) :
    Calls Tryz.prog 36 #[ptr p, .string s, .int .i64 at_, .int .u8 x] w fun e w' => e = .returned (.bool (σ.spoil s at_ x).1) ∧ Nxt w p (σ.spoil s at_ x).2 F w' := by
  have HR : Hid (RefAt w p σ F A loc lv wv) := h
  have HS : Hid (∀ {w1 : World}, Below w.heap.size w w1 → Nxt w p σ F w1) := fun hb => ⟨F, A, loc, lv, wv, h.later hb, below_kept hb, fun k hk => .inl hk⟩
  have c7 := cell_of h.blk 7
  simp only [List.getElem?_toArray, List.getElem?_cons_succ, List.getElem?_cons_zero] at c7
  have k4 := rfind_any p σ.room lv wv σ.c F loc σ.dir s w h.blk h.dir (by have := hi.dn; omega)
  cases ho : σ.c.off with
  | true =>
    have hr : σ.spoil s at_ x = (false, σ) := by rw [DS.spoil, ho]; rfl
    rw [hr]
    rw [ho] at c7
    unfold ptr at *
    clear hr h hi
    go_enter Tryz.func36, Tryz.ntmps36
    go_wp2_with (go_at_call 47; refine k4.mono ?_; rintro e w4 ⟨rfl, hb4⟩; have z7 := cell_later hb4 c7)
    go_ret
    exact ⟨rfl, HS.out hb4⟩
  | false =>
    rw [ho] at c7
    cases hf : fnd σ.dir s with
    | none =>
      have hr : σ.spoil s at_ x = (false, σ) := by rw [DS.spoil, ho, hf]; rfl
      rw [hr]
      rw [hf] at k4
      simp only [optp] at k4
      unfold ptr at *
      clear hr h hi
      go_enter Tryz.func36, Tryz.ntmps36
      go_wp2_with (go_at_call 47; refine k4.mono ?_; rintro e w4 ⟨rfl, hb4⟩; have z7 := cell_later hb4 c7)
      go_ret
      exact ⟨rfl, HS.out hb4⟩
    | some i =>
      obtain ⟨data, sure, hds⟩ : ∃ data sure, σ.fl i = (data, sure) := ⟨_, _, rfl⟩
      have hif := hi.fl i
      rw [hds] at hif
      rw [hf] at k4
      simp only [optp] at k4
      have hr0 : σ.spoil s at_ x = if 0 ≤ at_ ∧ at_ < (data.length : Int) then (true, { σ with fl := upd σ.fl i (data.set at_.toNat x, sure) }) else (false, σ) := by
        rw [DS.spoil, ho, hf]
        simp only [hds]
        rfl
      have HA : A i := by obtain ⟨a, ha⟩ := fnd_mem hf; exact h.al i (.inl ⟨a, ha⟩)
      have HA2 : Hid (A i) := HA
      obtain ⟨ao, cap, x1, x2, x3, x4, x5, x6, x7, y0, y1, y2, y3⟩ := file_facts h HA data sure hds hif.2.2
      have X1 := Hid.intro x1
      have HX : Hid ((ao = none → data.length = 0 ∧ cap = 0) ∧ Byt w ao data.length (xof data) ∧ Okb data ∧ data.length ≤ 4194304) := ⟨x4, x7, hif.2.2, hif.1⟩
      unfold ptr at *
      clear h hi x1 x2 x3 x4 x5 x6 x7 hif hds hf ho y1 y3 HA
      by_cases q1 : at_ < 0
      · have d1 : decide (at_ < 0) = true := decide_eq_true q1
        rw [if_neg (by omega)] at hr0
        rw [hr0]
        clear hr0
        go_enter Tryz.func36, Tryz.ntmps36
        go_wp2_with (go_at_call 47; refine k4.mono ?_; rintro e w4 ⟨rfl, hb4⟩; have z7 := cell_later hb4 c7; have y5 := cell_later hb4 y0)
        go_ret
        exact ⟨rfl, HS.out hb4⟩
      · have d1 : decide (at_ < 0) = false := decide_eq_false q1
        obtain ⟨a, rfl⟩ := Int.eq_ofNat_of_zero_le (show 0 ≤ at_ by omega)
        by_cases q2 : (data.length : Int) ≤ (a : Int)
        · have d2 : decide ((data.length : Int) ≤ (a : Int)) = true := decide_eq_true q2
          rw [if_neg (by omega)] at hr0
          rw [hr0]
          clear hr0 q1
          go_enter Tryz.func36, Tryz.ntmps36
          go_wp2_with (go_at_call 47; refine k4.mono ?_; rintro e w4 ⟨rfl, hb4⟩; have z7 := cell_later hb4 c7; have y5 := cell_later hb4 y0)
          go_ret
          exact ⟨rfl, HS.out hb4⟩
        · have d2 : decide ((data.length : Int) ≤ (a : Int)) = false := decide_eq_false q2
          rw [if_pos (by omega)] at hr0
          rw [hr0]
          have qa : a < data.length := by omega
          have HQ : Hid (a < data.length) := qa
          clear hr0 q1 q2
          go_enter Tryz.func36, Tryz.ntmps36
          go_wp2_with (first | (go_at_call 47; refine k4.mono ?_; rintro e w4 ⟨rfl, hb4⟩; have z7 := cell_later hb4 c7; have y5 := cell_later hb4 y0) | (at_builtin; refine wpList_app rfl (.const (.slice none 0 0)) (.tmp 38) rfl w.heap.size _ [] rfl (Row.nil _ _) ao data.length cap (xof data) rfl HX.out.1 (HX.out.2.1.later hb4) (by have := HX.out.2.2.2; simp; omega) hb4.size ?_; intro v6 w6 r6 g6 m6; have b6 := hb4.trans ((grown_none g6).mono hb4.size); rw [List.nil_append, bs_xof HX.out.2.2.1] at r6; obtain ⟨g, c, rfl, n1, n2, n3, n4, n5⟩ := Row.full r6 (by have := HQ.out; omega); have n6 := n4 a HQ.out; have n7 := n5 a; have y6 := cell_later b6 y0; have e6 := (b6.frozen (p := ⟨loc i, 0, none⟩) (block_lt_of_cell y0)).trans y2; have ne : loc i ≠ g := Nat.ne_of_lt (Nat.lt_of_lt_of_le (block_lt_of_cell y0) n1)))
          go_ret
          have e8 : loc i < w.heap.size := block_lt_of_cell y0
          refine ⟨rfl, nx_file (sure := sure) HR.out HA2.out ⟨b6.os, b6.tape, b6.output, by have := b6.size; simp [World.setCell]; exact this, fun k hk hn => ?_⟩ ?_ (Row.zero (Row.set (ownsRow_setCell_below r6 (a := ⟨loc i, 0, none⟩) e8 _) a HQ.out x)) fun b e => ?_⟩
          · rw [Below.heap_setCell _ _ _ _ (show k ≠ g by omega), Below.heap_setCell _ _ _ _ (show k ≠ loc i from fun e => hn (by rw [e]))]
            exact b6.block k hk
          · rw [Below.heap_setCell _ _ _ _ ne]
            exact heap_set (by rw [b6.block _ e8]; exact X1.out) 0 _
          · simp only [Value.ownBlock, Option.some.injEq] at e
            subst e
            exact .inr n1
end Go.Proofs.YtligofmcmjblpaaGreat

/- The document's own disk: what a pick says. -/
namespace Go.Proofs.YtligofmcmjblpaaGreat
open Go.RowKit
set_option linter.unusedVariables false
set_option linter.unusedSimpArgs false

theorem wrapU (n : Int) : IntKind.u64.wrap n = n % 18446744073709551616 := by simp [IntKind.wrap_u64]
theorem and62 (x : Int) (h : -9223372036854775808 ≤ x) (h0 : x < 0) : bits .and .u64 (x + 18446744073709551616) 4611686018427387903 = x % 4611686018427387904 := by
  obtain ⟨n, hn⟩ := Int.eq_ofNat_of_zero_le (show 0 ≤ x + 18446744073709551616 by omega)
  have e := u64_and_nat n 4611686018427387903 (by omega) (by decide)
  rw [hn]
  have e2 : n &&& 4611686018427387903 = n % 4611686018427387904 := Nat.and_two_pow_sub_one_eq_mod n 62
  rw [show ((4611686018427387903 : Int)) = ((4611686018427387903 : Nat) : Int) from rfl, e, e2]
  omega

set_option maxHeartbeats 1000000 in
set_option maxRecDepth 100000 in
theorem rnext_any (ao : Option Addr) (len cap : Nat) (P : Nat → Int) (k n : Nat) (w : World) (hp : Ints w ao len P) (hl : len ≤ 2 ^ 63 - 1) (hk : k ≤ 2 ^ 40) (hn : n ≤ 2 ^ 40) :
    Calls Tryz.prog 75 #[.slice ao len cap, .int .i64 (k : Int), .int .i64 (n : Int)] w fun e w' => e = .returned (.int .i64 (pick (is P len) k n : Nat)) ∧ w' = w := by
  by_cases h : k < len
  · have h' : (k : Int) < (len : Int) := by omega
    obtain ⟨hr, b, off, rfl, hc⟩ := hp k h
    have hpk : pick (is P len) k n = (if P k < 0 then (P k % 4611686018427387904).toNat else (P k).toNat) % (n + 1) := by
      unfold pick
      rw [is_at, if_pos h]
    rw [hpk]
    clear hpk hp h
    generalize P k = x at hr hc ⊢
    have e1 : IntKind.u64.wrap ((n : Int) + 1) = (n : Int) + 1 := by rw [wrapU]; omega
    have e0 : ¬ ((n : Int) + 1 = 0) := by omega
    by_cases q : x < 0
    · have hand := and62 x hr.1 q
      have e2 : IntKind.u64.wrap x = x + 18446744073709551616 := by rw [wrapU]; omega
      obtain ⟨m, hm⟩ := Int.eq_ofNat_of_zero_le (show 0 ≤ x % 4611686018427387904 by omega)
      have hm2 : m < 4611686018427387904 := by omega
      rw [if_pos q, hm]
      rw [hm] at hand
      have e3 : (((m : Int).toNat % (n + 1) : Nat) : Int) = (m : Int) % ((n : Int) + 1) := by simp
      have e4 : (m : Int) % ((n : Int) + 1) < (n : Int) + 1 := Int.emod_lt_of_pos _ (by omega)
      have e5 : 0 ≤ (m : Int) % ((n : Int) + 1) := Int.emod_nonneg _ (by omega)
      rw [e3]
      generalize hz : (m : Int) % ((n : Int) + 1) = z at e4 e5 ⊢
      clear hm e3
      go_enter Tryz.func75, Tryz.ntmps75
      go_wp2_with fail
      go_ret
      exact ⟨rfl, rfl⟩
    · have q' : 0 ≤ x := by omega
      obtain ⟨m, rfl⟩ := Int.eq_ofNat_of_zero_le q'
      have hm2 : m ≤ 9223372036854775807 := by omega
      have e2 : IntKind.u64.wrap (m : Int) = (m : Int) := by rw [wrapU]; omega
      rw [if_neg q]
      have e3 : (((m : Int).toNat % (n + 1) : Nat) : Int) = (m : Int) % ((n : Int) + 1) := by simp
      have e4 : (m : Int) % ((n : Int) + 1) < (n : Int) + 1 := Int.emod_lt_of_pos _ (by omega)
      have e5 : 0 ≤ (m : Int) % ((n : Int) + 1) := Int.emod_nonneg _ (by omega)
      rw [e3]
      generalize hz : (m : Int) % ((n : Int) + 1) = z at e4 e5 ⊢
      clear e3 q hr
      go_enter Tryz.func75, Tryz.ntmps75
      go_wp2_with fail
      go_ret
      exact ⟨rfl, rfl⟩
  · have h' : (len : Int) ≤ (k : Int) := by omega
    have hpk : pick (is P len) k n = 0 := by
      unfold pick
      rw [is_at, if_neg h]
    rw [hpk]
    clear hpk hp h
    go_enter Tryz.func75, Tryz.ntmps75
    go_wp2_with fail
    go_ret
    exact ⟨rfl, rfl⟩
end Go.Proofs.YtligofmcmjblpaaGreat
