/- Push of a sender. -/
import Derived.Test.YthfngmlnmpbcpaaSd2
namespace Go.Proofs.Ythfngmlnmpbcpaa
open Go.RowKit
set_option linter.unusedSimpArgs false
set_option linter.unusedVariables false

theorem RdS.full' {w : World} {B size n c : Nat} {A : Option Addr} {xs : List Value} (h : RdS w B size A n c xs) : RdS w B size A n n xs :=
  ⟨h.len, fun e => ⟨(h.none_ e).1, (h.none_ e).1⟩, Nat.le_refl _, h.low, h.cell⟩
/-- An append onto a row of the call's own: what was ahead of it reads as it did. -/
theorem run_append_own_keep {P : Program} (w : World) (base : Nat) (t ty e : TypeId) (i : TypeInfo) (z : Value) (size bytes : Nat) (ht : P.underlying t = some (.slice e)) (hi : P.info? e = some i) (hz : i.zero = some z)
    (hsize : i.size = size) (hby : i.bytes = bytes) (hzs : z.cells.size = size) (hsz : 0 < size)
    (A : Option Addr) (n cap : Nat) (xs : List Value) (hown : w.ownsRow base e size (.slice A n cap) n xs)
    (a : Addr) (m c : Nat) (news : List Value) (hl : news.length = m * size) (hnews : ∀ j u, news[j]? = some u → w.cell? (a.add j) = some u) (h1 : ∀ u ∈ news, u.oneCell' = true) (hm : 0 < m)
    (h63 : n + m ≤ maxLen) (hbytes : (n + m) * bytes ≤ 140737488355328) (hbase : base ≤ w.heap.size) :
    ∃ v' w', (Builtin.append_ #[t, t] ty #[.slice A n cap, .slice (some a) m c]).run P w = .ok v' w' ∧ w'.ownsRow base e size v' (n + m) (xs ++ news) ∧ w.grownBy w' (Value.slice A n cap).ownBlock ∧
      (v'.ownBlock = (Value.slice A n cap).ownBlock ∨ v'.ownBlock = some w.heap.size) ∧ RdS w' w'.heap.size size A n n xs := by
  obtain ⟨v', w', hrun, hown', hg, hn, hb⟩ := run_append_own_at (P := P) w base t ty e i z size bytes ht hi hz hsize hby hzs hsz _ n xs hown a m c news hl hnews h1 h63 hbytes hbase
  refine ⟨v', w', hrun, hown', hg, hb, ?_⟩
  have hsmall : n + m ≤ 9223372036854775807 := by simp only [maxLen] at h63; omega
  obtain ⟨A0, c0, e0, hrd⟩ := RdS.of_own hown
  injection e0 with q1 _ q3
  subst q1 q3
  have hfull := hrd.full'
  rcases hown.2 with ⟨e1, rfl⟩ | ⟨g, cap', cur, e1, hbg, hcur, hnc, hcm, hcs, htake⟩
  · injection e1 with p1 _ p3
    subst p1
    exact ⟨hfull.len, hfull.none_, hfull.le, fun a ha => (by cases ha), fun a ha => (by cases ha)⟩
  · injection e1 with p1 _ p3
    subst p1 p3
    have hlt : g < w.heap.size := (Array.getElem?_eq_some_iff.1 hcur).1
    refine ⟨hfull.len, hfull.none_, hfull.le, fun a' ha _ => (by obtain rfl := Option.some.inj ha; exact Nat.lt_of_lt_of_le hlt hg.size), fun a' ha j u hu => ?_⟩
    obtain rfl := Option.some.inj ha
    by_cases hroom : n + m ≤ cap
    · rcases hown'.2 with ⟨e2, h0⟩ | ⟨g2, cap2, cur2, e2, _, hcur2, _, _, _, htake2⟩
      · omega
      · subst e2
        have hfit : n * i.size + news.length ≤ cur.size := by rw [hl, hcs, hsize, ← Nat.add_mul]; exact Nat.mul_le_mul_right _ hroom
        have hr := run_append_room (P := P) w t ty e i ht hi g n cap cur hcur a m c news (by rw [hl, hsize]) hnews h1 hroom hfit
        rw [hrun] at hr
        injection hr with r1 r2
        injection r1 with r3 _ _
        injection r3 with r4
        injection r4 with r5
        subst r5
        have hj : j < n * size := by have := (List.getElem?_eq_some_iff.1 hu).1; rw [hown.1] at this; exact this
        have h5 : (cur2.toList.take ((n + m) * size))[j]? = some u := by rw [htake2, List.getElem?_append_left (by rw [hown.1]; exact hj)]; exact hu
        rw [List.getElem?_take] at h5
        split at h5
        · rw [Addr.add_lit, Nat.zero_add]
          rw [cell_of_row w' g2 j cur2 e (0, 0) hcur2]
          simpa using h5
        · cases h5
    · have hr := run_append_grow (P := P) w t ty e i z ht hi hz ⟨g, 0, none⟩ n cap xs (by rw [hown.1, hsize]) (fun j u hj => hrd.cell _ rfl j u hj) a m c news (by rw [hl, hsize]) hnews (by omega) (by omega) (growslice_fits (by omega) (by rw [hby]; exact hbytes))
      rw [hrun] at hr
      injection hr with r1 r2
      subst r2
      refine (World.cell?_of_block ?_).trans (hrd.cell _ rfl j u hu)
      rw [add_block]
      exact heap_alloc_old w.drew _ hlt
/-- The row that grows: an append of one. -/
theorem SdIn.app {B : Nat} {w : World} {g win ack c : Nat} {Ls : List (List Nat)} {A : Option Addr} {es : List Sl} {k : Option Nat} (h : SdIn B w g win ack Ls A c es k) (hn : Ls.length ≤ 100000) (ty : TypeId) (e : Sl) (BB : Nat) (A1 : Option Addr) (m1 c1 : Nat) (hm : m1 = 1) (hr : RdS w BB 1 A1 m1 c1 (rowsV slc [e])) (hB : B ≤ w.heap.size) :
    ∃ A' c' k' w', (Builtin.append_ #[34, 34] ty #[.slice A Ls.length c, .slice A1 m1 c1]).run Try.prog w = .ok (.slice A' (Ls.length + 1) c') w' ∧ w'.ownsRow B 32 1 (.slice A' (Ls.length + 1) c') (Ls.length + 1) (rowsV slc (es ++ [e])) ∧
      k' = (Value.slice A' (Ls.length + 1) c').ownBlock ∧ Kept (fun b => some b = k) w w' ∧ (k' = k ∨ ∃ b, k' = some b ∧ w.heap.size ≤ b) ∧ RdS w' w'.heap.size 1 A Ls.length Ls.length (rowsV slc es) := by
  subst hm
  have hfull := h.row.full'
  obtain ⟨i0, hi, hz0, hz1, hz2⟩ := info_parts_ info_sl
  rcases h.own with ⟨hk, hown⟩ | ⟨hk, hc⟩
  · cases A1 with
    | none => have := (hr.none_ rfl).1; omega
    | some a1 =>
      obtain ⟨v', w', hrun, hown', hg, hbk, hkp⟩ := run_append_own_keep (P := Try.prog) w B 34 ty 32 i0 _ 1 24 Try.underlying34 hi hz0 hz1 hz2 rfl (by decide) _ _ _ _ hown a1 1 c1 _ hr.len (hr.cell a1 rfl) (slc_all _) (by decide) (by unfold maxLen; omega) (by omega) hB
      rw [← rowsV_app] at hown'
      obtain ⟨A', c', rfl, _⟩ := RdS.of_own hown'
      refine ⟨A', c', _, w', hrun, hown', rfl, ⟨hg.os, hg.tape, hg.output, hg.size, fun i hi hne => hg.block i hi (by rw [← hk]; exact hne)⟩, ?_, hkp⟩
      rcases hbk with hbk | hbk
      · exact .inl (by rw [hk]; exact hbk)
      · exact .inr ⟨_, hbk, Nat.le_refl _⟩
  · have hrow := h.row
    rcases Nat.eq_zero_or_pos Ls.length with h0 | h0
    · have he : es = [] := List.eq_nil_of_length_eq_zero (by rw [h.eslen, h0])
      subst he
      have hc0 : c = 0 := by omega
      subst hc0
      rw [h0] at hfull ⊢
      cases A with
      | none =>
        obtain ⟨v', w', hrun, ho, hb, _, _⟩ := Ow.app2 (P := Try.prog) 34 ty 32 i0 _ 1 24 w.heap.size Try.underlying34 hi hz0 hz1 hz2 rfl (by decide) _ 0 [] (Ow.nil_ (e := 32) (size := 1) (Below.refl w.heap.size w) (Nat.le_refl _) (Nat.le_refl _)) BB A1 1 c1 _ hr (slc_all _) (by unfold maxLen; omega) (by omega)
        obtain ⟨A', c', rfl, _⟩ := ho.rds
        refine ⟨A', c', _, w', hrun, own_lo ho.own hB, rfl, Kept.of_below hb, ?_, hfull.bl hb⟩
        cases hA : A' with
        | none => exact absurd (ho.rds) (by subst hA; rintro ⟨A3, c3, e3, hr3⟩; injection e3 with q1 _ _; have := (hr3.none_ q1.symm).1; omega)
        | some a' => subst hA; exact .inr ⟨a'.block, rfl, (ho.own.lt a'.block rfl).1⟩
      | some a0 =>
        cases A1 with
        | none => have := (hr.none_ rfl).1; omega
        | some a1 =>
          have hz1' := hz1
          have hrun := run_append_grow (P := Try.prog) w 34 ty 32 i0 _ Try.underlying34 hi hz0 a0 0 0 [] (by simp) (fun j u hj => by simp at hj) a1 1 c1 (rowsV slc [e]) (by rw [hz1]; exact hr.len) (fun j u hj => hr.cell a1 rfl j u hj) (by omega) (by omega) (growslice_fits (by omega) (by rw [hz2]; omega))
          have hge := grownCap_ge w (0 + 1) 0 32 
          have hcm : grownCap w (0 + 1) 0 32 ≤ maxLen := grownCap_le_maxLen w (0 + 1) 0 32 (by unfold maxLen; omega)
          obtain ⟨G, gG⟩ : ∃ G, grownCap w (0 + 1) 0 32 = G := ⟨_, rfl⟩
          rw [gG] at hrun hge hcm
          refine ⟨_, G, _, _, hrun, ⟨rfl, .inr ⟨w.heap.size, _, _, rfl, hB, heap_alloc_new w.drew _, hge, hcm, ?_, ?_⟩⟩, rfl, Kept.of_below (((Below.refl _ _).drew).alloc (Nat.le_refl _) _), .inr ⟨w.heap.size, rfl, Nat.le_refl _⟩, hfull.bl (((Below.refl _ _).drew).alloc (Nat.le_refl _) _)⟩
          · simp [size_zeroCells, hz1, rowsV, slc, Value.cells]; omega
          · simp [rowsV, slc]
    · obtain ⟨cap, w', hrun, hown', hb⟩ := run_append_full (P := Try.prog) w 34 ty 32 i0 _ 1 24 Try.underlying34 hi hz0 hz1 hz2 rfl (by decide) w.heap.size BB A A1 Ls.length 1 c1 _ _ (by rw [← hc] at hrow; exact hrow) hr (by omega) h0 (by unfold maxLen; omega) (by omega)
      rw [← rowsV_app] at hown'
      exact ⟨_, cap, _, w', by rw [← hc]; exact hrun, own_lo hown' hB, rfl, Kept.of_below hb, .inr ⟨w.heap.size, rfl, Nat.le_refl _⟩, hfull.bl hb⟩
/-- What was pushed is there. -/
theorem SdIn.grown {B : Nat} {w W : World} {g win ack c : Nat} {Ls : List (List Nat)} {A : Option Addr} {es : List Sl} {k : Option Nat} (h : SdIn B w g win ack Ls A c es k) {L : List Nat} {a : Option Addr} {m : Nat} {A2 : Option Addr} {c2 : Nat} (hk : Kept (fun b => b = g ∨ some b = k) w W)
    (hb : Whole W g 66 [.int .i64 (win : Int), .int .i64 (ack : Int), .slice A2 (Ls.length + 1) c2]) (ho : W.ownsRow B 32 1 (.slice A2 (Ls.length + 1) c2) (Ls.length + 1) (rowsV slc (es ++ [(a, L.length, m)])))
    (hk' : (Value.slice A2 (Ls.length + 1) c2).ownBlock = k ∨ ∃ b, (Value.slice A2 (Ls.length + 1) c2).ownBlock = some b ∧ w.heap.size ≤ b ∧ (∀ a', a = some a' → 0 < L.length → a'.block ≠ b))
    (hr : RdS W W.heap.size 1 a L.length m (rowsV f8 L)) (h256 : ∀ b ∈ L, b < 256) (h60 : L.length ≤ 60) (hf : ∀ a', a = some a' → 0 < L.length → w.heap.size ≤ a'.block) (hkl : ∀ b, k = some b → b < w.heap.size) :
    SdIn B W g win ack (Ls ++ [L]) A2 c2 (es ++ [(a, L.length, m)]) (Value.slice A2 (Ls.length + 1) c2).ownBlock := by
  have hlt := h.lt
  have hl : (Ls ++ [L]).length = Ls.length + 1 := by simp
  have hel := h.eslen
  obtain ⟨A3, c3, e3, hrw⟩ := RdS.of_own ho
  injection e3 with a1 _ a3
  subst a1 a3
  have hkg : (Value.slice A2 (Ls.length + 1) c2).ownBlock ≠ some g := by
    rcases hk' with e | ⟨b, e, h1, _⟩
    · rw [e]; exact h.kne
    · rw [e]; intro e2; have := Option.some.inj e2; omega
  refine ⟨by rw [hl]; exact hb, h.lo, by rw [hl]; exact hrw, .inl ⟨by rw [hl], by rw [hl]; exact ho⟩, fun a' ha _ e => hkg (by subst ha; exact congrArg some e), hkg, fun i L' hL => ?_⟩
  rcases Nat.lt_or_ge i Ls.length with hi | hi
  · rw [List.getElem?_append_left hi] at hL
    obtain ⟨a0, m0, q1, q2, q3, q4, q5⟩ := h.each i L' hL
    refine ⟨a0, m0, by rw [List.getElem?_append_left (by omega)]; exact q1, q2.kept_ne hk (fun a' ha hn e => by rcases e with e | e; exact (q5 a' ha hn).1 e; exact (q5 a' ha hn).2 e), q3, q4, fun a' ha hn => ⟨(q5 a' ha hn).1, fun e => ?_⟩⟩
    rcases hk' with e2 | ⟨b, e2, h1, _⟩
    · exact (q5 a' ha hn).2 (e.trans e2)
    · have h3 := Option.some.inj (e.trans e2)
      have := q2.low a' ha hn
      omega
  · have hL' := (List.getElem?_eq_some_iff.1 hL).1
    rw [hl] at hL'
    obtain rfl : i = Ls.length := by omega
    rw [List.getElem?_append_right (Nat.le_refl _), Nat.sub_self] at hL
    simp at hL
    subst hL
    refine ⟨a, m, by rw [List.getElem?_append_right (by omega), hel, Nat.sub_self]; rfl, hr, h256, h60, fun a' ha hn => ⟨fun e => by have := hf a' ha hn; omega, fun e => ?_⟩⟩
    rcases hk' with e2 | ⟨b, e2, _, h1⟩
    · have h3 := hkl _ (e.trans e2).symm
      have := hf a' ha hn
      omega
    · exact h1 a' ha hn (Option.some.inj (e.trans e2))
theorem SdIn.klt {B : Nat} {w : World} {g win ack c : Nat} {Ls : List (List Nat)} {A : Option Addr} {es : List Sl} {k : Option Nat} (h : SdIn B w g win ack Ls A c es k) : ∀ b, k = some b → b < w.heap.size := by
  intro b hb
  rcases h.own with ⟨h1, h2⟩ | ⟨h1, _⟩
  · exact (h2.lt b (h1.symm.trans hb)).2
  · rw [h1] at hb; cases hb
set_option maxRecDepth 100000 in
set_option maxHeartbeats 1000000 in
theorem push_full {B : Nat} {g win ack c : Nat} {Ls : List (List Nat)} {A : Option Addr} {es : List Sl} {k : Option Nat} (w : World) (h : SdIn B w g win ack Ls A c es k) (ha : ack ≤ 100000) (hn : Ls.length ≤ 100000) (A1 : Option Addr) (n1 c1 : Nat) (hf : win ≤ Ls.length) :
    Calls Try.prog 13 #[.pointer (some ⟨g, 0, none⟩), .slice A1 n1 c1] w fun e w' => e = .returned (.tuple #[.int .i64 0, .int .i64 20]) ∧ Below w.heap.size w w' := by
  have ld0 : ∀ w', Kept Nil_ w.drew w' → w'.cell? ⟨g, 0, none⟩ = some (.int .i64 (win : Int)) := fun w' hk => hk.nil_cell (h.drew.box.cell (i := 0) rfl)
  have ld2 : ∀ w', Kept Nil_ w.drew w' → w'.cell? ⟨g, 2, none⟩ = some (.slice A Ls.length c) := fun w' hk => hk.nil_cell (h.drew.box.cell (i := 2) rfl)
  have t1 : decide (win ≤ Ls.length) = true := decide_eq_true hf
  clear h
  go_enter Try.func13, Try.ntmps13
  go_upto_region 1 with fail
  refine wp_region_reg (Nil_) (by kernel_rfl) ?_
  apply wpR_next 0 (some 6)
  · simp only [List.getElem?_toArray, List.getElem?_cons_succ, List.getElem?_cons_zero]; exact rfl
  · rfl
  · kernel_rfl
  · kernel_rfl
  · kernel_rfl
  · exact fun _ _ _ _ h => h
  apply Exists.intro
  apply And.intro
  · apply yr_run; rfl; intro w' hw'; go_simp; (try with_reducible rfl)
  simp only [Act.put, List.setIfInBounds_toArray, List.set_cons_zero, List.set_cons_succ]
  apply wpR_next 1 (some 7)
  · simp only [List.getElem?_toArray, List.getElem?_cons_succ, List.getElem?_cons_zero]; exact rfl
  · rfl
  · kernel_rfl
  · kernel_rfl
  · kernel_rfl
  · exact fun _ _ _ _ h => h
  apply Exists.intro
  apply And.intro
  · apply yr_run; rfl; intro w' hw'; go_simp; (try with_reducible rfl)
  simp only [Act.put, List.setIfInBounds_toArray, List.set_cons_zero, List.set_cons_succ]
  apply wpR_next 2 (some 8)
  · simp only [List.getElem?_toArray, List.getElem?_cons_succ, List.getElem?_cons_zero]; exact rfl
  · rfl
  · kernel_rfl
  · kernel_rfl
  · kernel_rfl
  · exact fun _ _ _ _ h => h
  apply Exists.intro
  apply And.intro
  · apply yr_run; rfl; intro w' hw'; go_simp; (try with_reducible rfl)
  simp only [Act.put, List.setIfInBounds_toArray, List.set_cons_zero, List.set_cons_succ]
  apply wpR_next 3 (some 9)
  · simp only [List.getElem?_toArray, List.getElem?_cons_succ, List.getElem?_cons_zero]; exact rfl
  · rfl
  · kernel_rfl
  · kernel_rfl
  · kernel_rfl
  · exact fun _ _ _ _ h => h
  apply Exists.intro
  apply And.intro
  · apply yr_run; rfl; intro w' hw'; go_simp; (try with_reducible rfl)
  simp only [Act.put, List.setIfInBounds_toArray, List.set_cons_zero, List.set_cons_succ]
  apply wpR_next 4 (some 10)
  · simp only [List.getElem?_toArray, List.getElem?_cons_succ, List.getElem?_cons_zero]; exact rfl
  · rfl
  · kernel_rfl
  · kernel_rfl
  · kernel_rfl
  · exact fun _ _ _ _ h => h
  apply Exists.intro
  apply And.intro
  · apply yr_run; rfl; intro w' hw'; go_simp; (try with_reducible rfl)
  simp only [Act.put, List.setIfInBounds_toArray, List.set_cons_zero, List.set_cons_succ]
  apply wpR_next 5 (some 11)
  · simp only [List.getElem?_toArray, List.getElem?_cons_succ, List.getElem?_cons_zero]; exact rfl
  · rfl
  · kernel_rfl
  · kernel_rfl
  · kernel_rfl
  · exact fun _ _ _ _ h => h
  apply Exists.intro
  apply And.intro
  · apply yr_run; rfl; intro w' hw'; go_simp; (try with_reducible rfl)
  simp only [Act.put, List.setIfInBounds_toArray, List.set_cons_zero, List.set_cons_succ]
  apply wpR_next 6 (some 12)
  · simp only [List.getElem?_toArray, List.getElem?_cons_succ, List.getElem?_cons_zero]; exact rfl
  · rfl
  · kernel_rfl
  · kernel_rfl
  · kernel_rfl
  · exact fun _ _ _ _ h => h
  apply Exists.intro
  apply And.intro
  · apply yr_run; rfl; intro w' hw'; go_simp; (try with_reducible rfl)
  simp only [Act.put, List.setIfInBounds_toArray, List.set_cons_zero, List.set_cons_succ]
  apply wpR_next 7 (some 13)
  · simp only [List.getElem?_toArray, List.getElem?_cons_succ, List.getElem?_cons_zero]; exact rfl
  · rfl
  · kernel_rfl
  · kernel_rfl
  · kernel_rfl
  · exact fun _ _ _ _ h => h
  apply Exists.intro
  apply And.intro
  · apply yr_run; rfl; intro w' hw'; go_simp; (try with_reducible rfl)
  simp only [Act.put, List.setIfInBounds_toArray, List.set_cons_zero, List.set_cons_succ]
  apply wpR_next 8 (some 14)
  · simp only [List.getElem?_toArray, List.getElem?_cons_succ, List.getElem?_cons_zero]; exact rfl
  · rfl
  · kernel_rfl
  · kernel_rfl
  · kernel_rfl
  · exact fun _ _ _ _ h => h
  apply Exists.intro
  apply And.intro
  · apply yr_run; rfl; intro w' hw'; go_simp; (try with_reducible rfl)
  simp only [Act.put, List.setIfInBounds_toArray, List.set_cons_zero, List.set_cons_succ]
  apply wpR_next 9 (some 15)
  · simp only [List.getElem?_toArray, List.getElem?_cons_succ, List.getElem?_cons_zero]; exact rfl
  · rfl
  · kernel_rfl
  · kernel_rfl
  · kernel_rfl
  · exact fun _ _ _ _ h => h
  apply Exists.intro
  apply And.intro
  · apply yr_run; rfl; intro w' hw'; go_simp; (try with_reducible rfl)
  simp only [Act.put, List.setIfInBounds_toArray, List.set_cons_zero, List.set_cons_succ]
  refine wpR_done (by kernel_rfl) ?_ _
  intro W7 hw7
  have HB7 : RowKit.Hid (Below w.heap.size w W7) := Lib.hid (((Below.refl w.heap.size w).drew).trans (hw7.mono (Nat.le_refl _)))
  clear hw7 ld0 ld2
  go_wp2
  refine bodyPost_ret (v := .tuple #[.int .i64 0, .int .i64 20]) (by simp [results, Try.results13, go_sem]) rfl ⟨rfl, HB7.out⟩
set_option maxRecDepth 100000 in
set_option maxHeartbeats 1000000 in
theorem push_yesK {B : Nat} {g win ack c : Nat} {Ls : List (List Nat)} {A : Option Addr} {es : List Sl} {k : Option Nat} (w : World) (h : SdIn B w g win ack Ls A c es k) (ha : ack ≤ 100000) (hn : Ls.length ≤ 100000) (A1 : Option Addr) (c1 : Nat) (L : List Nat) (hr : RdS w w.heap.size 1 A1 L.length c1 (rowsV f8 L)) (h256 : ∀ b ∈ L, b < 256) (h60 : L.length ≤ 60) (hf : Ls.length < win) (hB : B ≤ w.heap.size) :
    Calls Try.prog 13 #[.pointer (some ⟨g, 0, none⟩), .slice A1 L.length c1] w fun e w' => e = .returned (.tuple #[.int .i64 ((ack : Int) + ((Ls.length + 1 : Nat) : Int)), .int .i64 0]) ∧
      ∃ A' c' es' k', SdIn B w' g win ack (Ls ++ [L]) A' c' es' k' ∧ Kept (fun b => b = g ∨ some b = k) w w' ∧ (k' = k ∨ ∃ b, k' = some b ∧ w.heap.size ≤ b) ∧ k' = (Value.slice A' (Ls.length + 1) c').ownBlock ∧ ∃ Ac cc, es' = es ++ [(Ac, L.length, cc)] ∧ (∀ a', Ac = some a' → 0 < L.length → w.heap.size ≤ a'.block) ∧ RdS w' w'.heap.size 1 A Ls.length Ls.length (rowsV slc es) := by
  have ld0 : ∀ w', Kept Nil_ w.drew w' → w'.cell? ⟨g, 0, none⟩ = some (.int .i64 (win : Int)) := fun w' hk => hk.nil_cell (h.drew.box.cell (i := 0) rfl)
  have ld2 : ∀ w', Kept Nil_ w.drew w' → w'.cell? ⟨g, 2, none⟩ = some (.slice A Ls.length c) := fun w' hk => hk.nil_cell (h.drew.box.cell (i := 2) rfl)
  have t1 : decide (win ≤ Ls.length) = false := decide_eq_false (by omega)
  have t2 : ¬ win ≤ Ls.length := by omega
  have H := Lib.hid h
  have Hr := Lib.hid hr
  have H256 := Lib.hid h256
  have HB0 := Lib.hid hB
  clear h hr h256 hB hf
  go_enter Try.func13, Try.ntmps13
  go_upto_region 1 with fail
  refine wp_region_reg (Nil_) (by kernel_rfl) ?_
  apply wpR_next 0 (some 6)
  · simp only [List.getElem?_toArray, List.getElem?_cons_succ, List.getElem?_cons_zero]; exact rfl
  · rfl
  · kernel_rfl
  · kernel_rfl
  · kernel_rfl
  · exact fun _ _ _ _ h => h
  apply Exists.intro
  apply And.intro
  · apply yr_run; rfl; intro w' hw'; go_simp; (try with_reducible rfl)
  simp only [Act.put, List.setIfInBounds_toArray, List.set_cons_zero, List.set_cons_succ]
  apply wpR_next 1 (some 7)
  · simp only [List.getElem?_toArray, List.getElem?_cons_succ, List.getElem?_cons_zero]; exact rfl
  · rfl
  · kernel_rfl
  · kernel_rfl
  · kernel_rfl
  · exact fun _ _ _ _ h => h
  apply Exists.intro
  apply And.intro
  · apply yr_run; rfl; intro w' hw'; go_simp; (try with_reducible rfl)
  simp only [Act.put, List.setIfInBounds_toArray, List.set_cons_zero, List.set_cons_succ]
  apply wpR_next 2 (some 8)
  · simp only [List.getElem?_toArray, List.getElem?_cons_succ, List.getElem?_cons_zero]; exact rfl
  · rfl
  · kernel_rfl
  · kernel_rfl
  · kernel_rfl
  · exact fun _ _ _ _ h => h
  apply Exists.intro
  apply And.intro
  · apply yr_run; rfl; intro w' hw'; go_simp; (try with_reducible rfl)
  simp only [Act.put, List.setIfInBounds_toArray, List.set_cons_zero, List.set_cons_succ]
  apply wpR_next 3 (some 9)
  · simp only [List.getElem?_toArray, List.getElem?_cons_succ, List.getElem?_cons_zero]; exact rfl
  · rfl
  · kernel_rfl
  · kernel_rfl
  · kernel_rfl
  · exact fun _ _ _ _ h => h
  apply Exists.intro
  apply And.intro
  · apply yr_run; rfl; intro w' hw'; go_simp; (try with_reducible rfl)
  simp only [Act.put, List.setIfInBounds_toArray, List.set_cons_zero, List.set_cons_succ]
  apply wpR_next 4 (some 10)
  · simp only [List.getElem?_toArray, List.getElem?_cons_succ, List.getElem?_cons_zero]; exact rfl
  · rfl
  · kernel_rfl
  · kernel_rfl
  · kernel_rfl
  · exact fun _ _ _ _ h => h
  apply Exists.intro
  apply And.intro
  · apply yr_run; rfl; intro w' hw'; go_simp; (try with_reducible rfl)
  simp only [Act.put, List.setIfInBounds_toArray, List.set_cons_zero, List.set_cons_succ]
  apply wpR_next 5 (some 11)
  · simp only [List.getElem?_toArray, List.getElem?_cons_succ, List.getElem?_cons_zero]; exact rfl
  · rfl
  · kernel_rfl
  · kernel_rfl
  · kernel_rfl
  · exact fun _ _ _ _ h => h
  apply Exists.intro
  apply And.intro
  · apply yr_run; rfl; intro w' hw'; go_simp; (try with_reducible rfl)
  simp only [Act.put, List.setIfInBounds_toArray, List.set_cons_zero, List.set_cons_succ]
  apply wpR_next 6 (some 12)
  · simp only [List.getElem?_toArray, List.getElem?_cons_succ, List.getElem?_cons_zero]; exact rfl
  · rfl
  · kernel_rfl
  · kernel_rfl
  · kernel_rfl
  · exact fun _ _ _ _ h => h
  apply Exists.intro
  apply And.intro
  · apply yr_run; rfl; intro w' hw'; go_simp; (try with_reducible rfl)
  simp only [Act.put, List.setIfInBounds_toArray, List.set_cons_zero, List.set_cons_succ]
  apply wpR_next 7 (some 13)
  · simp only [List.getElem?_toArray, List.getElem?_cons_succ, List.getElem?_cons_zero]; exact rfl
  · rfl
  · kernel_rfl
  · kernel_rfl
  · kernel_rfl
  · exact fun _ _ _ _ h => h
  apply Exists.intro
  apply And.intro
  · apply yr_run; rfl; intro w' hw'; go_simp; (try with_reducible rfl)
  simp only [Act.put, List.setIfInBounds_toArray, List.set_cons_zero, List.set_cons_succ]
  apply wpR_next 8 (some 14)
  · simp only [List.getElem?_toArray, List.getElem?_cons_succ, List.getElem?_cons_zero]; exact rfl
  · rfl
  · kernel_rfl
  · kernel_rfl
  · kernel_rfl
  · exact fun _ _ _ _ h => h
  apply Exists.intro
  apply And.intro
  · apply yr_run; rfl; intro w' hw'; go_simp; (try with_reducible rfl)
  simp only [Act.put, List.setIfInBounds_toArray, List.set_cons_zero, List.set_cons_succ]
  apply wpR_next 9 (some 15)
  · simp only [List.getElem?_toArray, List.getElem?_cons_succ, List.getElem?_cons_zero]; exact rfl
  · rfl
  · kernel_rfl
  · kernel_rfl
  · kernel_rfl
  · exact fun _ _ _ _ h => h
  apply Exists.intro
  apply And.intro
  · apply yr_run; rfl; intro w' hw'; go_simp; (try with_reducible rfl)
  simp only [Act.put, List.setIfInBounds_toArray, List.set_cons_zero, List.set_cons_succ]
  refine wpR_done (by kernel_rfl) ?_ _
  intro W1 hw1
  have H1 := Lib.hid (H.out.drew.below hw1)
  have HX1 : RowKit.Hid (Ext w W1) := Lib.hid (Ext.trans ((Below.refl _ _).drew) hw1)
  have Hr1 := Lib.hid (Hr.out.bl HX1.out)
  clear hw1 ld0 ld2
  go_upto_region 3 with fail
  clear t1 t2
  have H2 := Lib.hid H1.out.drew
  have Hr2 := Lib.hid Hr1.out.dr
  have ld2 : ∀ w', Kept (fun b => some b = k) W1.drew w' → w'.cell? ⟨g, 2, none⟩ = some (.slice A Ls.length c) := fun w' hk => hk.cell (H2.out.box.cell (i := 2) rfl) (fun e => H2.out.kne e.symm)
  refine wp_region_tail (fun b => some b = k) [11] (by kernel_rfl) ?_
  apply wpT_next 0 (some 16) (by kernel_rfl)
  · simp only [List.getElem?_toArray, List.getElem?_cons_succ, List.getElem?_cons_zero]; exact rfl
  · rfl
  · kernel_rfl
  · kernel_rfl
  · kernel_rfl
  · exact fun _ _ _ _ h => h
  apply Exists.intro
  apply And.intro
  · apply yr_run; rfl; intro w' hw'; go_simp; (try with_reducible rfl)
  simp only [Act.put, List.setIfInBounds_toArray, List.set_cons_zero, List.set_cons_succ]
  apply wpT_next 1 (some 17) (by kernel_rfl)
  · simp only [List.getElem?_toArray, List.getElem?_cons_succ, List.getElem?_cons_zero]; exact rfl
  · rfl
  · kernel_rfl
  · kernel_rfl
  · kernel_rfl
  · exact fun _ _ _ _ h => h
  apply Exists.intro
  apply And.intro
  · apply yr_run; rfl; intro w' hw'; go_simp; (try with_reducible rfl)
  simp only [Act.put, List.setIfInBounds_toArray, List.set_cons_zero, List.set_cons_succ]
  apply wpT_next 2 (some 18) (by kernel_rfl)
  · simp only [List.getElem?_toArray, List.getElem?_cons_succ, List.getElem?_cons_zero]; exact rfl
  · rfl
  · kernel_rfl
  · kernel_rfl
  · kernel_rfl
  · exact fun _ _ _ _ h => h
  apply Exists.intro
  apply And.intro
  · apply yr_run; rfl; intro w' hw'; go_simp; (try with_reducible rfl)
  simp only [Act.put, List.setIfInBounds_toArray, List.set_cons_zero, List.set_cons_succ]
  apply wpT_next 3 (some 19) (by kernel_rfl)
  · simp only [List.getElem?_toArray, List.getElem?_cons_succ, List.getElem?_cons_zero]; exact rfl
  · rfl
  · kernel_rfl
  · kernel_rfl
  · kernel_rfl
  · exact fun _ _ _ _ h => h
  apply Exists.intro
  apply And.intro
  · apply yr_run; rfl; intro w' hw'; go_simp; (try with_reducible rfl)
  simp only [Act.put, List.setIfInBounds_toArray, List.set_cons_zero, List.set_cons_succ]
  apply wpT_next 4 (some 20) (by kernel_rfl)
  · simp only [List.getElem?_toArray, List.getElem?_cons_succ, List.getElem?_cons_zero]; exact rfl
  · rfl
  · kernel_rfl
  · kernel_rfl
  · kernel_rfl
  · exact fun _ _ _ _ h => h
  apply Exists.intro
  apply And.intro
  · apply yr_run; rfl; intro w' hw'; go_simp; (try with_reducible rfl)
  simp only [Act.put, List.setIfInBounds_toArray, List.set_cons_zero, List.set_cons_succ]
  apply wpT_next 5 (some 21) (by kernel_rfl)
  · simp only [List.getElem?_toArray, List.getElem?_cons_succ, List.getElem?_cons_zero]; exact rfl
  · rfl
  · kernel_rfl
  · kernel_rfl
  · kernel_rfl
  · exact fun _ _ _ _ h => h
  apply Exists.intro
  apply And.intro
  · apply yr_run; rfl; intro w' hw'; go_simp; (try with_reducible rfl)
  simp only [Act.put, List.setIfInBounds_toArray, List.set_cons_zero, List.set_cons_succ]
  apply wpT_call 6 (some 22)
  · simp only [List.getElem?_toArray, List.getElem?_cons_succ, List.getElem?_cons_zero]; exact rfl
  · rfl
  · kernel_rfl
  · rfl
  · intro w'; go_simp; first | done | exact ⟨rfl, rfl⟩ | with_reducible rfl
  intro w' hw'
  refine (clone_gen A1 c1 L w' (Hr2.out.bl hw') (by omega)).mono ?_
  rintro e w'' ⟨Ac, cc, rfl, hrc, hnc, -, hb⟩
  refine ⟨_, rfl, Kept.of_below hb, ?_⟩
  have HXc : RowKit.Hid (Ext W1.drew w'') := Lib.hid (Ext.trans hw' hb)
  have HRc := Lib.hid hrc
  have HNc : RowKit.Hid (∀ a', Ac = some a' → 0 < L.length → W1.drew.heap.size ≤ a'.block) := Lib.hid (fun a' ha hn => Nat.le_trans hw'.size (hnc a' ha hn))
  obtain ⟨W2, gW2⟩ : ∃ x, w'' = x := ⟨_, rfl⟩
  rw [gW2] at HXc HRc ⊢
  clear hw' hb hrc hnc gW2
  simp only [Act.put, List.setIfInBounds_toArray, List.set_cons_zero, List.set_cons_succ]
  apply wpT_run 7 (some 23)
  · simp only [List.getElem?_toArray, List.getElem?_cons_succ, List.getElem?_cons_zero]; exact rfl
  · rfl
  · kernel_rfl
  · rfl
  intro w' hw'
  refine ⟨.slice (some ⟨w'.heap.size, 0, none⟩) 1 1, w'.alloc (.cells #[.slice Ac L.length cc] 32), exec_buildSlice 34 32 1 #[(0, .tmp 22)] (by rfl) Try.underlying34 _ (by kernel_rfl), Kept.of_below (below1 _ _), ?_⟩
  have HXd : RowKit.Hid (Ext W1.drew (w'.alloc (.cells #[.slice Ac L.length cc] 32))) := Lib.hid (Ext.trans HXc.out (Ext.trans hw' (below1 _ _)))
  have HRd := Lib.hid ((HRc.out.bl hw').al (.cells #[.slice Ac L.length cc] 32))
  have HLi : RowKit.Hid (RdS (w'.alloc (.cells #[.slice Ac L.length cc] 32)) (w'.alloc (.cells #[.slice Ac L.length cc] 32)).heap.size 1 (some ⟨w'.heap.size, 0, none⟩) 1 1 (rowsV slc [(Ac, L.length, cc)])) := Lib.hid (RdS.of_whole (Whole.new_ _ _ [_]) rfl)
  obtain ⟨W3, gW3⟩ : ∃ x, w'.alloc (.cells #[.slice Ac L.length cc] 32) = x := ⟨_, rfl⟩
  obtain ⟨g3, gg3⟩ : ∃ x, w'.heap.size = x := ⟨_, rfl⟩
  rw [gW3] at HXd HRd HLi ⊢
  rw [gg3] at HLi ⊢
  clear hw' HXc HRc gW3 gg3
  simp only [Act.put, List.setIfInBounds_toArray, List.set_cons_zero, List.set_cons_succ]
  apply wpT_run 8 (some 24)
  · simp only [List.getElem?_toArray, List.getElem?_cons_succ, List.getElem?_cons_zero]; exact rfl
  · rfl
  · kernel_rfl
  · rfl
  intro w' hw'
  have h4 := H2.out.below (Ext.trans HXd.out hw')
  obtain ⟨A', c', k', w'', hrun, hown, hk1, hk2, hk3, hkr⟩ := h4.app (by omega) 34 (Ac, L.length, cc) _ _ 1 1 rfl (HLi.out.bl hw') (by have h1 := HB0.out; have h2 := HX1.out.size; have h3 := HXd.out.size; have h5 : W1.drew.heap.size = W1.heap.size := rfl; have h6 := hw'.size; omega)
  refine ⟨_, w'', exec_append (by rfl) (by rfl) (by rfl) hrun, hk2, ?_⟩
  subst hk1
  have HOa := Lib.hid hown
  have HOl := Lib.hid hkr
  have HKa : RowKit.Hid (Kept (fun b => some b = k) W1.drew w'') := Lib.hid ((Kept.of_ext (Ext.trans HXd.out hw')).trans hk2)
  have HRe := Lib.hid ((HRd.out.bl hw').kept_ne hk2 (fun a' ha hn e => by have h7 := HNc.out a' ha hn; have h8 := H2.out.klt _ e.symm; omega))
  have HBe := Lib.hid (hk2.whole h4.box (fun e => h4.kne e.symm))
  have HK3 : RowKit.Hid ((Value.slice A' (Ls.length + 1) c').ownBlock = k ∨ ∃ b, (Value.slice A' (Ls.length + 1) c').ownBlock = some b ∧ W1.drew.heap.size ≤ b ∧ (∀ a', Ac = some a' → 0 < L.length → a'.block ≠ b)) := Lib.hid (by
    rcases hk3 with e | ⟨b, e, hle⟩
    · exact .inl e
    · refine .inr ⟨b, e, Nat.le_trans (Ext.trans HXd.out hw').size hle, fun a' ha hn e2 => ?_⟩
      have := (HRd.out.bl hw').low a' ha hn
      omega)
  obtain ⟨W4, gW4⟩ : ∃ x, w'' = x := ⟨_, rfl⟩
  rw [gW4] at HOa HKa HRe HBe HOl ⊢
  clear hw' h4 hrun hown hk2 hk3 hkr HLi HRd HXd gW4
  simp only [Act.put, List.setIfInBounds_toArray, List.set_cons_zero, List.set_cons_succ]
  apply wpT_run 9 (some 25)
  · simp only [List.getElem?_toArray, List.getElem?_cons_succ, List.getElem?_cons_zero]; exact rfl
  · rfl
  · kernel_rfl
  · rfl
  intro w' hw'
  apply Exists.intro
  apply Exists.intro
  apply And.intro
  · go_simp; first | done | exact ⟨rfl, rfl⟩ | exact rfl
  apply And.intro
  · exact Kept.refl _ _
  have hpd9 := hw'
  clear hw'
  simp only [Act.put, List.setIfInBounds_toArray, List.set_cons_zero, List.set_cons_succ]
  apply wpT_next 10 (some 26) (by kernel_rfl)
  · simp only [List.getElem?_toArray, List.getElem?_cons_succ, List.getElem?_cons_zero]; exact rfl
  · rfl
  · kernel_rfl
  · kernel_rfl
  · kernel_rfl
  · exact fun _ _ _ _ h => h
  apply Exists.intro
  apply And.intro
  · apply yr_run; rfl; intro w' hw'; go_simp; (try with_reducible rfl)
  simp only [Act.put, List.setIfInBounds_toArray, List.set_cons_zero, List.set_cons_succ]
  apply wpT_last 11
  · simp only [List.getElem?_toArray, List.getElem?_cons_succ, List.getElem?_cons_zero]; exact rfl
  · rfl
  · kernel_rfl
  · rfl
  · decide
  intro w' hw'
  replace hw' := Ext.trans hpd9 hw'
  clear hpd9
  have hbx := HBe.out.below hw'
  have hcl := hbx.cell (i := 2) rfl
  have hfr := hbx.free 2
  refine ⟨w'.setCell ⟨g, 2, none⟩ (.slice A' (Ls.length + 1) c'), ?_, ?_⟩
  · go_simp; first | done | exact rfl
  have HK5 : RowKit.Hid (Kept (fun b => b = g ∨ some b = k) W1.drew (w'.setCell ⟨g, 2, none⟩ (.slice A' (Ls.length + 1) c'))) := Lib.hid (((HKa.out.wider (T := fun b => b = g ∨ some b = k) (fun i _ h => Or.inr h)).trans (Kept.of_ext hw')).setCell (p := ⟨g, 2, none⟩) (.inl (Or.inl rfl)) _)
  have HB5 : RowKit.Hid (Whole (w'.setCell ⟨g, 2, none⟩ (.slice A' (Ls.length + 1) c')) g 66 [.int .i64 (win : Int), .int .i64 (ack : Int), .slice A' (Ls.length + 1) c']) := Lib.hid (hbx.set_ 2 _)
  have hne : ∀ b, (Value.slice A' (Ls.length + 1) c').ownBlock = some b → ¬ b = g := fun b hb e => by
    rcases HK3.out with e3 | ⟨b', e3, h3, _⟩
    · exact H2.out.kne (by rw [← e3, hb, e])
    · have h4 := Option.some.inj (hb.symm.trans e3); have h5 := H2.out.lt; omega
  have HO5 := Lib.hid (own_kept (own_up HOa.out hw') ((Kept.refl (fun b => b = g) w').setCell (p := ⟨g, 2, none⟩) (.inl rfl) (.slice A' (Ls.length + 1) c')) hne)
  have HR5 := Lib.hid ((HRe.out.bl hw').kept_ne ((Kept.refl (fun b => b = g) w').setCell (p := ⟨g, 2, none⟩) (.inl rfl) (.slice A' (Ls.length + 1) c')) (fun a' ha hn e => by have h7 := HNc.out a' ha hn; have h8 := H2.out.lt; have h9 : a'.block = g := e; omega))
  have HOl5 := Lib.hid ((HOl.out.bl hw').kept_ne ((Kept.refl (fun b => b = g) w').setCell (p := ⟨g, 2, none⟩) (.inl rfl) (.slice A' (Ls.length + 1) c')) (fun a' ha hn e => H2.out.rne a' ha hn e))
  obtain ⟨W5, gW5⟩ : ∃ x, w'.setCell ⟨g, 2, none⟩ (.slice A' (Ls.length + 1) c') = x := ⟨_, rfl⟩
  rw [gW5] at HK5 HB5 HO5 HR5 HOl5 ⊢
  clear hw' hbx hcl hfr hne gW5 HBe HOa HRe HKa HOl
  try simp only [Act.put, List.setIfInBounds_toArray, List.set_cons_zero, List.set_cons_succ]
  refine wpT_done (by kernel_rfl) ?_ _
  intro W6 hw6
  have HS := Lib.hid (H2.out.grown HK5.out HB5.out HO5.out HK3.out HR5.out H256.out h60 HNc.out H2.out.klt)
  have HS6 := Lib.hid (HS.out.below hw6)
  have HK6 : RowKit.Hid (Kept (fun b => b = g ∨ some b = k) w W6) := Lib.hid ((Kept.of_ext (Ext.trans HX1.out ((Below.refl _ _).drew))).trans (HK5.out.trans (Kept.of_ext hw6)))
  have HP := Lib.hid (pushed_any W6 HS6.out (by omega) (by simp; omega))
  have HOl6 := Lib.hid (HOl5.out.bl hw6)
  clear hw6 ld2 HS
  rw [show (Ls ++ [L]).length = Ls.length + 1 from by simp] at HP
  go_wp2_with (first | (go_at_call 36; refine HP.out.mono ?_; rintro e W7 ⟨rfl, hb7⟩; have HB7 := Lib.hid hb7; clear hb7))
  refine bodyPost_ret (v := .tuple #[.int .i64 ((ack : Int) + ((Ls.length + 1 : Nat) : Int)), .int .i64 0]) (by simp [results, Try.results13, go_sem]) rfl ⟨rfl, A', c', _, _, HS6.out.below HB7.out, HK6.out.trans (Kept.of_below HB7.out), ?_, rfl, Ac, cc, rfl, fun a' ha hn => Nat.le_trans HX1.out.size (HNc.out a' ha hn), HOl6.out.bl HB7.out⟩
  rcases HK3.out with e | ⟨b, e, h1, _⟩
  · exact .inl e
  · exact .inr ⟨b, e, Nat.le_trans HX1.out.size h1⟩
theorem push_yes {B : Nat} {g win ack c : Nat} {Ls : List (List Nat)} {A : Option Addr} {es : List Sl} {k : Option Nat} (w : World) (h : SdIn B w g win ack Ls A c es k) (ha : ack ≤ 100000) (hn : Ls.length ≤ 100000) (A1 : Option Addr) (c1 : Nat) (L : List Nat) (hr : RdS w w.heap.size 1 A1 L.length c1 (rowsV f8 L)) (h256 : ∀ b ∈ L, b < 256) (h60 : L.length ≤ 60) (hf : Ls.length < win) (hB : B ≤ w.heap.size) :
    Calls Try.prog 13 #[.pointer (some ⟨g, 0, none⟩), .slice A1 L.length c1] w fun e w' => e = .returned (.tuple #[.int .i64 ((ack : Int) + ((Ls.length + 1 : Nat) : Int)), .int .i64 0]) ∧
      ∃ A' c' es' k', SdIn B w' g win ack (Ls ++ [L]) A' c' es' k' ∧ Kept (fun b => b = g ∨ some b = k) w w' ∧ (k' = k ∨ ∃ b, k' = some b ∧ w.heap.size ≤ b) ∧ k' = (Value.slice A' (Ls.length + 1) c').ownBlock ∧ ∃ Ac cc, es' = es ++ [(Ac, L.length, cc)] ∧ ∀ a', Ac = some a' → 0 < L.length → w.heap.size ≤ a'.block :=
  (push_yesK w h ha hn A1 c1 L hr h256 h60 hf hB).mono fun _ _ ⟨h1, A', c', es', k', h2, h3, h4, h5, Ac, cc, h6, h7, _⟩ => ⟨h1, A', c', es', k', h2, h3, h4, h5, Ac, cc, h6, h7⟩
end Go.Proofs.Ythfngmlnmpbcpaa
