/- The document's own disk: Read, ReadAt, List, New. -/
import Derived.Test.YtligofmcmjblpaaGreatRapp
import Derived.Test.YtligofmcmjblpaaGreatNx
namespace Go.Proofs.YtligofmcmjblpaaGreat
open Go.RowKit
set_option linter.unusedVariables false
set_option linter.unusedSimpArgs false

set_option maxHeartbeats 1000000 in
set_option maxRecDepth 100000 in
theorem rread_any (p : Nat) (σ : DS) (F A : Nat → Prop) (loc : Nat → Nat) (lv wv : Value) (s : ByteArray) (w : World) (h : RefAt w p σ F A loc lv wv) (hi : Inv σ) :
    Calls Tryz.prog 15 #[ptr p, .string s] w fun e w' => ∃ v, e = .returned (.tuple #[v, .int .i64 (σ.read s).2]) ∧ Row w.heap.size w' v ((σ.read s).1.getD []) ∧ Below w.heap.size w w' := by
  have c7 := cell_of h.blk 7
  simp only [List.getElem?_toArray, List.getElem?_cons_succ, List.getElem?_cons_zero] at c7
  cases ho : σ.c.off with
  | true =>
    have hr : σ.read s = (none, 10) := by rw [DS.read, ho]; rfl
    rw [hr]
    rw [ho] at c7
    unfold ptr
    clear hr h hi
    go_enter Tryz.func15, Tryz.ntmps15
    go_wp2_with fail
    go_ret2
    exact ⟨_, rfl, Row.nil _ _, Below.refl _ _⟩
  | false =>
    rw [ho] at c7
    have k4 := rfind_any p σ.room lv wv σ.c F loc σ.dir s w h.blk h.dir (by have := hi.dn; omega)
    cases hf : fnd σ.dir s with
    | none =>
      have hr : σ.read s = (none, 7) := by rw [DS.read, ho, hf]; rfl
      rw [hr]
      rw [hf] at k4
      simp only [optp] at k4
      unfold ptr at *
      clear hr h hi
      go_enter Tryz.func15, Tryz.ntmps15
      go_wp2_with (go_at_call 47; refine k4.mono ?_; rintro e w4 ⟨rfl, hb4⟩)
      go_ret2
      exact ⟨_, rfl, Row.nil _ _, hb4⟩
    | some i =>
      obtain ⟨data, sure, hds⟩ : ∃ data sure, σ.fl i = (data, sure) := ⟨_, _, rfl⟩
      have hif := hi.fl i
      rw [hds] at hif
      have hr : σ.read s = (some data, 0) := by rw [DS.read, ho, hf]; simp only [hds]; rfl
      rw [hr]
      rw [hf] at k4
      simp only [optp] at k4
      have HA : A i := by obtain ⟨a, ha⟩ := fnd_mem hf; exact h.al i (.inl ⟨a, ha⟩)
      obtain ⟨ao, cap, x1, x2, x3, x4, x5, x6, x7, y0, y1, y2, y3⟩ := file_facts h HA data sure hds hif.2.2
      have HX : Hid ((ao = none → data.length = 0 ∧ cap = 0) ∧ Byt w ao data.length (xof data) ∧ Okb data ∧ data.length ≤ 4194304) := ⟨x4, x7, hif.2.2, hif.1⟩
      unfold ptr at *
      clear hr h hi x1 x2 x3 x4 x5 x6 x7 hif hds hf ho y1 y2 y3 HA
      go_enter Tryz.func15, Tryz.ntmps15
      go_wp2_with (first | (go_at_call 47; refine k4.mono ?_; rintro e w4 ⟨rfl, hb4⟩; have y5 := cell_later hb4 y0) | (at_builtin; refine wpList_app rfl (.const (.slice none 0 0)) (.tmp 19) rfl w.heap.size _ [] rfl (Row.nil _ _) ao data.length cap (xof data) rfl HX.out.1 (HX.out.2.1.later hb4) (by have := HX.out.2.2.2; simp; omega) hb4.size ?_; intro v6 w6 r6 g6 m6; have b6 := grown_none g6))
      go_ret2
      refine ⟨_, rfl, ?_, hb4.trans (b6.mono hb4.size)⟩
      rw [List.nil_append, bs_xof HX.out.2.2.1] at r6
      exact r6

theorem read_cases (σ : DS) (s : ByteArray) : ((σ.read s).2 = 10 ∧ (σ.read s).1 = none) ∨ ((σ.read s).2 = 7 ∧ (σ.read s).1 = none) ∨ (σ.read s).2 = 0 := by
  unfold DS.read
  split
  · exact .inl ⟨rfl, rfl⟩
  · split
    · exact .inr (.inl ⟨rfl, rfl⟩)
    · exact .inr (.inr rfl)
theorem read_ok {σ : DS} (hi : Inv σ) (s : ByteArray) : Okb ((σ.read s).1.getD []) ∧ ((σ.read s).1.getD []).length ≤ 4194304 := by
  unfold DS.read
  split
  · exact ⟨fun x hx => by simp at hx, by simp⟩
  · split
    · exact ⟨fun x hx => by simp at hx, by simp⟩
    · next i _ => exact ⟨(hi.fl i).2.2, (hi.fl i).1⟩
/-- A piece of a row that is read. -/
theorem bs_piece (xs : List Int) (h : Okb xs) (a n : Nat) (hl : a + n ≤ xs.length) : bs (fun k => xof xs (a + k)) n = (xs.drop a).take n := by
  apply List.ext_getElem
  · simp [bs_length]; omega
  · intro i h1 h2
    simp [bs_length] at h1
    have hx : a + i < xs.length := by omega
    have := h xs[a + i] (List.getElem_mem hx)
    simp [bs, xof, hx]
    omega
theorem byt_piece {w : World} {ao : Option Addr} {len : Nat} {X : Nat → Nat} (h : Byt w ao len X) (a n : Nat) (hl : a + n ≤ len) {b off : Nat} (he : ao = some ⟨b, off, none⟩) : Byt w (some ⟨b, off + a, none⟩) n (fun k => X (a + k)) := fun k hk => by
  obtain ⟨h1, b', off', e, hc⟩ := h (a + k) (by omega)
  rw [he] at e
  simp only [Option.some.injEq, Addr.mk.injEq, and_true] at e
  obtain ⟨rfl, rfl⟩ := e
  exact ⟨h1, b, off + a, rfl, by rw [Nat.add_assoc]; exact hc⟩

set_option maxHeartbeats 1000000 in
set_option maxRecDepth 100000 in
theorem rreadAt_any (p : Nat) (σ : DS) (F A : Nat → Prop) (loc : Nat → Nat) (lv wv : Value) (s : ByteArray) (at_ n : Int) (w : World) (h : RefAt w p σ F A loc lv wv) (hi : Inv σ) (ha : -9223372036854775808 ≤ at_ ∧ at_ ≤ 9223372036854775807) (hn : -9223372036854775808 ≤ n ∧ n ≤ 9223372036854775807) :
    Calls Tryz.prog 13 #[ptr p, .string s, .int .i64 at_, .int .i64 n] w fun e w' => ∃ ao m c Y, e = .returned (.tuple #[.slice ao m c, .int .i64 (σ.readAt s at_ n).2]) ∧ (ao = none → m = 0 ∧ c = 0) ∧ Byt w' ao m Y ∧ bs Y m = (σ.readAt s at_ n).1 ∧ Below w.heap.size w w' := by
  have k1 := rread_any p σ F A loc lv wv s w h hi
  have hok := read_ok hi s
  have HNIL : Hid (∀ w' : World, Byt w' none 0 (fun _ => 0)) := fun w' k hk => by omega
  clear h hi
  rcases read_cases σ s with ⟨hE, hN⟩ | ⟨hE, hN⟩ | hE
  · have hr : σ.readAt s at_ n = ([], 10) := by rw [DS.readAt, hE]; rfl
    rw [hr]
    rw [hE] at k1
    unfold ptr at *
    clear hr hE hN hok
    go_enter Tryz.func13, Tryz.ntmps13
    go_wp2_with (go_at_call 15; refine k1.mono ?_; rintro e w1 ⟨v1, rfl, r1, b1⟩)
    go_ret2
    exact ⟨_, _, _, _, rfl, fun _ => ⟨rfl, rfl⟩, HNIL.out _, rfl, b1⟩
  · have hr : σ.readAt s at_ n = ([], 7) := by rw [DS.readAt, hE]; rfl
    rw [hr]
    rw [hE] at k1
    unfold ptr at *
    clear hr hE hN hok
    go_enter Tryz.func13, Tryz.ntmps13
    go_wp2_with (go_at_call 15; refine k1.mono ?_; rintro e w1 ⟨v1, rfl, r1, b1⟩)
    go_ret2
    exact ⟨_, _, _, _, rfl, fun _ => ⟨rfl, rfl⟩, HNIL.out _, rfl, b1⟩
  · rw [hE] at k1
    have hra : σ.readAt s at_ n = if at_ < 0 ∨ n < 0 then ([], 1) else if (((σ.read s).1.getD []).length : Int) < at_ ∨ (((σ.read s).1.getD []).length : Int) - at_ < n then ([], 5) else ((((σ.read s).1.getD []).drop at_.toNat).take n.toNat, 0) := by rw [DS.readAt, hE]; rfl
    rw [hra]
    clear hra hE
    generalize (σ.read s).1.getD [] = xs at k1 hok ⊢
    have HO : Hid (Okb xs) := hok.1
    obtain ⟨D, hD⟩ : ∃ D, D = xs.length := ⟨_, rfl⟩
    have HD : Hid (D = xs.length) := hD
    have hDl : D ≤ 4194304 := by rw [hD]; exact hok.2
    rw [← hD]
    clear hD hok
    by_cases q1 : at_ < 0
    · rw [if_pos (.inl q1)]
      unfold ptr at *
      go_enter Tryz.func13, Tryz.ntmps13
      go_wp2_with (go_at_call 15; refine k1.mono ?_; rintro e w1 ⟨v1, rfl, r1, b1⟩)
      go_ret2
      exact ⟨_, _, _, _, rfl, fun _ => ⟨rfl, rfl⟩, HNIL.out _, rfl, b1⟩
    · have d1 : decide (at_ < 0) = false := decide_eq_false q1
      have p1 : 0 ≤ at_ := by omega
      by_cases q2 : n < 0
      · rw [if_pos (.inr q2)]
        unfold ptr at *
        go_enter Tryz.func13, Tryz.ntmps13
        go_wp2_with (go_at_call 15; refine k1.mono ?_; rintro e w1 ⟨v1, rfl, r1, b1⟩)
        go_ret2
        exact ⟨_, _, _, _, rfl, fun _ => ⟨rfl, rfl⟩, HNIL.out _, rfl, b1⟩
      · have d2 : decide (n < 0) = false := decide_eq_false q2
        have p2 : 0 ≤ n := by omega
        rw [if_neg (by omega)]
        obtain ⟨a, rfl⟩ := Int.eq_ofNat_of_zero_le p1
        obtain ⟨m, rfl⟩ := Int.eq_ofNat_of_zero_le p2
        clear ha hn q1 q2 d1 d2 p1 p2
        by_cases q3 : (D : Int) < (a : Int)
        · rw [if_pos (.inl q3)]
          unfold ptr at *
          go_enter Tryz.func13, Tryz.ntmps13
          go_wp2_with (go_at_call 15; refine k1.mono ?_; rintro e w1 ⟨v1, rfl, r1, b1⟩; obtain ⟨ao, cap, rfl, x4, x5, x6, x7⟩ := r1.byt HO.out; rw [← HD.out])
          go_ret2
          exact ⟨_, _, _, _, rfl, fun _ => ⟨rfl, rfl⟩, HNIL.out _, rfl, b1⟩
        · have d3 : decide ((D : Int) < (a : Int)) = false := decide_eq_false q3
          have p3 : a ≤ D := by omega
          have e3 : IntKind.i64.wrap ((D : Int) - (a : Int)) = (D : Int) - (a : Int) := by rw [wrapEq]; unfold wrap64; omega
          by_cases q4 : (D : Int) - (a : Int) < (m : Int)
          · rw [if_pos (.inr q4)]
            unfold ptr at *
            clear q3
            go_enter Tryz.func13, Tryz.ntmps13
            go_wp2_with (go_at_call 15; refine k1.mono ?_; rintro e w1 ⟨v1, rfl, r1, b1⟩; obtain ⟨ao, cap, rfl, x4, x5, x6, x7⟩ := r1.byt HO.out; rw [← HD.out])
            go_ret2
            exact ⟨_, _, _, _, rfl, fun _ => ⟨rfl, rfl⟩, HNIL.out _, rfl, b1⟩
          · have d4 : decide ((D : Int) - (a : Int) < (m : Int)) = false := decide_eq_false q4
            rw [if_neg (by omega)]
            have p4 : a + m ≤ D := by omega
            unfold ptr at *
            clear q3 q4
            go_enter Tryz.func13, Tryz.ntmps13
            go_wp2_with (go_at_call 15; refine k1.mono ?_; rintro e w1 ⟨v1, rfl, r1, b1⟩; obtain ⟨ao, cap, rfl, x4, x5, x6, x7⟩ := r1.byt HO.out; rw [← HD.out]; rw [← HD.out] at x4 x5 x7)
            · go_ret2
              refine ⟨_, _, _, rfl, fun _ => ⟨by omega, rfl⟩, fun _ => 0, fun k hk => by omega, ?_, b1⟩
              obtain rfl : m = 0 := by omega
              simp [bs]
            · go_ret2
              have hal : a + m ≤ xs.length := by rw [← HD.out]; exact p4
              refine ⟨_, _, _, rfl, fun e => ?_, fun k => xof xs (a + k), fun k hk => ?_, bs_piece xs HO.out a m hal, b1⟩
              · cases ao with
                | none => have := x4 rfl; omega
                | some ad => cases e
              · obtain ⟨_, b, off, e, _⟩ := x7 0 (by omega)
                subst e
                have e2 : Option.map (fun x : Addr => x.add a) (some ⟨b, off, none⟩) = some ⟨b, off + a, none⟩ := by simp [Addr.add_lit]
                rw [e2]
                exact byt_piece x7 a m p4 rfl k hk

theorem _root_.Go.Proofs.Tryz.info9 : (Tryz.prog.info? 9).map (fun i => (i.zero, i.size, i.bytes)) = some (some (.string ⟨#[]⟩), 1, 16) := by kernel_rfl
theorem RowS.nil (B : Nat) (w : World) : RowS B w (.slice none 0 0) [] := World.ownsRow_nil w B 9 1
theorem RowS.slice {B : Nat} {w : World} {v : Value} {xs : List ByteArray} (h : RowS B w v xs) : ∃ ao n c, v = .slice ao n c := by
  rcases h.2 with ⟨rfl, _⟩ | ⟨g, cap, cur, rfl, _⟩
  · exact ⟨_, _, _, rfl⟩
  · exact ⟨_, _, _, rfl⟩
/-- One string appended. -/
theorem wpList_appS {w : World} {ops : Array Oper} {rest : List Oper} {o : Oper} {a : Act} {Q : Exit → Act → World → Prop} {s x : Operand} {B : Nat} {v : Value} {xs : List ByteArray} {y : ByteArray} (hgd : o.guard = none)
    (ho : o.op = .call { callee := .builtin .append, args := #[s, x], argTypes := #[65, 65] }) (hs : a.eval s = v) (g : Nat) (hx : a.eval x = .slice (some ⟨g, 0, none⟩) 1 1) (hg : g = w.heap.size) (hrow : RowS B w v xs) (hb : xs.length + 1 ≤ 1099511627776) (hB : B ≤ w.heap.size)
    (h : ∀ v' w', RowS B w' v' (xs ++ [y]) → Below B w w' → wpList Tryz.prog ops Q rest (a.put o.dst v') w') : wpList Tryz.prog ops Q (o :: rest) a (w.alloc (.cells #[.string y] 9)) := by
  subst hg
  obtain ⟨i, hi, hz, hsize, hbytes⟩ := info_parts Tryz.info9
  have hrow' : RowS B (w.alloc (.cells #[.string y] 9)) v xs := World.ownsRow.alloc hrow _
  have hB' : B ≤ (w.alloc (.cells #[.string y] 9)).heap.size := by simp; omega
  refine wpList_append_own (P := Tryz.prog) (w.alloc (.cells #[.string y] 9)) hgd s x 65 ho B 9 i _ 1 16 Tryz.underlying65 hi hz hsize hbytes rfl (by decide) v xs.length _ hs hrow' ⟨w.heap.size, 0, none⟩ 1 1 [.string y] hx rfl ?_ ?_ (by simp only [maxLen]; omega) (by omega) hB' fun v' w' h1 h2 h3 => h v' w' ?_ ?_
  · intro j u hu
    have hj : j = 0 := by
      cases j with
      | zero => rfl
      | succ j => simp at hu
    subst hj
    simp at hu
    rw [← hu]
    simp [Addr.add]
  · intro u hu
    simp at hu
    subst hu
    rfl
  · unfold RowS
    rw [List.map_append, List.length_append]
    exact h1
  · exact ((Below.refl B w).alloc hB _).trans (Below.grown (Below.refl _ _) h2 hB' (fun k hk => (World.ownsRow.lt hrow' k hk).1))

set_option maxHeartbeats 1000000 in
set_option maxRecDepth 100000 in
theorem rlist_any (p : Nat) (σ : DS) (F A : Nat → Prop) (loc : Nat → Nat) (lv wv : Value) (w : World) (h : RefAt w p σ F A loc lv wv) (hi : Inv σ) :
    Calls Tryz.prog 39 #[ptr p] w fun e w' => ∃ v, e = .returned v ∧ RowS w.heap.size w' v σ.list ∧ Below w.heap.size w w' := by
  obtain ⟨ao, cap, rfl, hlc, hcm, hnil, hcell⟩ := h.dir.cells
  have c1 := cell_of h.blk 1
  have c7 := cell_of h.blk 7
  simp only [List.getElem?_toArray, List.getElem?_cons_succ, List.getElem?_cons_zero] at c1 c7
  obtain ⟨n, hnn⟩ : ∃ n, n = σ.dir.length := ⟨_, rfl⟩
  have HC : Hid (∀ k, k < n → ∃ g a i, ao = some ⟨g, 0, none⟩ ∧ σ.dir[k]? = some (a, i) ∧ w.cell? ⟨g, k * 2, none⟩ = some (.string a) ∧ w.cell? ⟨g, k * 2 + 1, none⟩ = some (.pointer (some ⟨loc i, 0, none⟩))) := fun k hk => by
    obtain ⟨g, a, i, e, xk, xd, x1, x2⟩ := hcell k (by omega)
    exact ⟨g, a, i, e, xk, x1, x2⟩
  have HN : Hid (n = σ.dir.length ∧ n ≤ 1048576) := ⟨hnn, by have := hi.dn; omega⟩
  have hn' : n ≤ 1048576 := HN.out.2
  rw [← hnn] at c1
  have hsl : σ.list = if σ.c.off = true then [] else σ.dir.map (·.1) := rfl
  rw [hsl]
  clear h hi hlc hcm hnil hcell hnn hsl
  unfold ptr
  cases ho : σ.c.off with
  | true =>
    rw [ho] at c7
    simp only [if_true]
    go_enter Tryz.func39, Tryz.ntmps39
    go_wp2_with fail
    go_loopg [3, 11] n (fun g v i wr => ∃ k : Nat, k + g = n ∧ i = .int .i64 (k : Int) ∧ v = .slice none 0 0 ∧ Below w.heap.size w wr)
    case atStart => exact ⟨0, by omega, rfl, rfl, Below.refl _ _⟩
    case round =>
      obtain ⟨k, hk, rfl, rfl, hw⟩ := hrel
      by_cases h : k < n
      · have h' : (k : Int) < (n : Int) := by omega
        obtain ⟨g, a, i, rfl, xk, x1, x2⟩ := HC.out k h
        have y1 := cell_later hw x1
        have y2 := cell_later hw x2
        have y7 := cell_later hw c7
        have yp := block_lt_of_cell y7
        obtain ⟨GK, HG⟩ : ∃ g, Hid (g < gk ∧ k + 1 + g = n) := ⟨gk - 1, by omega, by omega⟩
        have HW : Hid (Below w.heap.size w wr) := hw
        clear hk x1 x2 hw xk
        go_wp2_with fail
        go_roundg GK
        case measure => exact HG.out.1
        case rel => exact ⟨k + 1, HG.out.2, by go_num, rfl, HW.out.alloc HW.out.size _⟩
      · have h' : (n : Int) ≤ (k : Int) := by omega
        go_wp2_with fail
        go_ret
        exact ⟨_, rfl, RowS.nil _ _, hw⟩
  | false =>
    rw [ho] at c7
    simp only [Bool.false_eq_true, if_false]
    go_enter Tryz.func39, Tryz.ntmps39
    go_wp2_with fail
    go_loopg [3, 11] n (fun g v i wr => ∃ k : Nat, k + g = n ∧ i = .int .i64 (k : Int) ∧ Below w.heap.size w wr ∧ Hid (RowS w.heap.size wr v ((σ.dir.take k).map (·.1))))
    case atStart => exact ⟨0, by omega, rfl, Below.refl _ _, RowS.nil _ _⟩
    case round =>
      obtain ⟨k, hk, rfl, hw, HT⟩ := hrel
      by_cases h : k < n
      · have h' : (k : Int) < (n : Int) := by omega
        obtain ⟨g, a, i, rfl, xk, x1, x2⟩ := HC.out k h
        have y1 := cell_later hw x1
        have y2 := cell_later hw x2
        have y7 := cell_later hw c7
        have yp := block_lt_of_cell y7
        obtain ⟨GK, HG⟩ : ∃ g, Hid (g < gk ∧ k + 1 + g = n) := ⟨gk - 1, by omega, by omega⟩
        have HW : Hid (Below w.heap.size w wr) := hw
        have HL : Hid (((σ.dir.take k).map (·.1)).length + 1 ≤ 1099511627776) := by show _ + 1 ≤ _; rw [List.length_map, List.length_take]; omega
        have HS : Hid ((σ.dir.take (k + 1)).map (·.1) = (σ.dir.take k).map (·.1) ++ [a]) := by show _ = _; rw [take_snoc xk, List.map_append]; rfl
        clear hk x1 x2 hw xk
        go_wp2_with (at_builtin; refine wpList_appS (s := .tmp 20) (x := .tmp 23) rfl rfl rfl _ rfl (by simp) (World.ownsRow.alloc HT.out _) HL.out (by have := HW.out.size; simp; omega) ?_; intro v5 w5 hr5 hb5)
        go_roundg GK
        case measure => exact HG.out.1
        case rel => exact ⟨k + 1, HG.out.2, by go_num, (HW.out.alloc HW.out.size _).trans hb5, by show RowS _ _ _ _; rw [HS.out]; exact hr5⟩
      · have h' : (n : Int) ≤ (k : Int) := by omega
        have ht := HT.out
        rw [List.take_of_length_le (by have := HN.out; omega)] at ht
        have HT2 : Hid (RowS w.heap.size wr u3 (σ.dir.map (·.1))) := ht
        clear ht HT
        go_wp2_with fail
        go_ret
        exact ⟨_, rfl, HT2.out, hw⟩
end Go.Proofs.YtligofmcmjblpaaGreat
