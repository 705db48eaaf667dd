/- 'NetOrder' answers true for any frames, whichever is dropped.
   No condition beyond the row's own. -/
import Derived.Test.YtibbibpfnpjjdaaNAI
import Derived.Deep.DeepCutAuto
import Derived.Deep.CutBlock
import Derived.Test.YtibbibpfnpjjdaaRows

/- The law of the calls. -/
namespace Go.Proofs.Ytibbibpfnpjjdaa
open Go.RowKit
set_option linter.unusedSimpArgs false
set_option linter.unusedVariables false

end Go.Proofs.Ytibbibpfnpjjdaa

/- The law of the counts. -/
namespace Go.Proofs.Ytibbibpfnpjjdaa
open Go.RowKit
set_option linter.unusedSimpArgs false
set_option linter.unusedVariables false

end Go.Proofs.Ytibbibpfnpjjdaa

/- The law of the turned bits. -/
namespace Go.Proofs.Ytibbibpfnpjjdaa
open Go.RowKit
set_option linter.unusedSimpArgs false
set_option linter.unusedVariables false

end Go.Proofs.Ytibbibpfnpjjdaa

/- The law of the copies. -/
namespace Go.Proofs.Ytibbibpfnpjjdaa
open Go.RowKit
set_option linter.unusedSimpArgs false
set_option linter.unusedVariables false

theorem ap_step {S S' T : Nat → Prop} {w w' : World} (h : ∀ b, T b → ¬ S b) (hG : NtGo w w' S S') (hT : ∀ b, T b → b < w.heap.size) : ∀ b, T b → ¬ S' b := fun b hb q => by
  rcases hG.n b q with e | e
  · exact h b hb e
  · have := hT b hb; omega
def E1 (B g t : Nat) (S : Nat → Prop) (w : World) : Prop := NtIn B w g t none none 0 [] zeroN ∧ ∀ b, NtT g t none (wayB none) b → ¬ S b
theorem E1.step {B g t : Nat} {S S' : Nat → Prop} {w w' : World} (hG : NtGo w w' S S') (hn : ∀ b, S b → NoB w b) (h : E1 B g t S w) : E1 B g t S' w' :=
  ⟨h.1.keep hG.k h.2 hn, ap_step h.2 hG (fun b hb => (h.1.lt b hb).2)⟩
def E2 (B g t : Nat) (go : Option Nat) (A : Option Addr) (c : Nat) (es : List Sl) (y : Nat) (A' : Option Addr) (c' : Nat) (es' : List Sl) (s : NtS) (S : Nat → Prop) (w : World) : Prop :=
  TwIn B w g t go A c es y A' c' es' s s ∧ ∀ b, TwS g t go A y A' b → ¬ S b
theorem E2.step {B g t : Nat} {go : Option Nat} {A : Option Addr} {c : Nat} {es : List Sl} {y : Nat} {A' : Option Addr} {c' : Nat} {es' : List Sl} {s : NtS} {S S' : Nat → Prop} {w w' : World} (hG : NtGo w w' S S') (hn : ∀ b, S b → NoB w b) (h : E2 B g t go A c es y A' c' es' s S w) : E2 B g t go A c es y A' c' es' s S' w' :=
  ⟨h.1.keep hG.k h.2 hn, ap_step h.2 hG (fun b hb => (h.1.lt b hb).2)⟩
def E3 (B g t : Nat) (go : Option Nat) (A : Option Addr) (c : Nat) (es : List Sl) (s : NtS) (g2 t2 : Nat) (go2 : Option Nat) (A2 : Option Addr) (c2 : Nat) (es2 : List Sl) (s2 : NtS) (S : Nat → Prop) (w : World) : Prop :=
  (NtIn B w g t go A c es s ∧ NtIn B w g2 t2 go2 A2 c2 es2 s2) ∧ (∀ b, NtT g t go (wayB A) b → ¬ S b) ∧ ∀ b, NtT g2 t2 go2 (wayB A2) b → ¬ S b
theorem E3.step {B g t : Nat} {go : Option Nat} {A : Option Addr} {c : Nat} {es : List Sl} {s : NtS} {g2 t2 : Nat} {go2 : Option Nat} {A2 : Option Addr} {c2 : Nat} {es2 : List Sl} {s2 : NtS} {S S' : Nat → Prop} {w w' : World} (hG : NtGo w w' S S') (hn : ∀ b, S b → NoB w b) (h : E3 B g t go A c es s g2 t2 go2 A2 c2 es2 s2 S w) : E3 B g t go A c es s g2 t2 go2 A2 c2 es2 s2 S' w' :=
  ⟨⟨h.1.1.keep hG.k h.2.1 hn, h.1.2.keep hG.k h.2.2 hn⟩, ap_step h.2.1 hG (fun b hb => (h.1.1.lt b hb).2), ap_step h.2.2 hG (fun b hb => (h.1.2.lt b hb).2)⟩
end Go.Proofs.Ytibbibpfnpjjdaa

/- The law of the order. -/
namespace Go.Proofs.Ytibbibpfnpjjdaa
open Go.RowKit
set_option linter.unusedSimpArgs false
set_option linter.unusedVariables false

def putX (x : Fe) : List Nat := putF x.1.1 x.1.2
theorem ownK_whole {w : World} {B n c k : Nat} {T : TypeId} {A : Option Addr} {xs : List Value} (h : w.ownsRow B T k (.slice A n c) n xs) {b : Nat} (hb : (Value.slice A n c).ownBlock = some b) : ∃ cs, Whole w b T cs := by
  rcases h.2 with ⟨h1, _⟩ | ⟨g, cap, cur, h1, _, hg, _⟩
  · rw [h1] at hb; cases hb
  · rw [h1] at hb
    obtain rfl : g = b := Option.some.inj hb
    exact ⟨cur.toList, by unfold Whole; simpa using hg⟩
structure OrIn (w : World) (g t : Nat) (own : List Fe) (v : Value) (s : NtS) (M : Int) (i : Nat) (wr : World) : Prop where
  net : ∃ go A c es, NtIn w.heap.size wr g t go A c es s
  row : ∃ A c, v = .slice A own.length c ∧ wr.ownsRow w.heap.size 34 7 (.slice A own.length c) own.length (rowsV feC own)
  each : ∀ x ∈ own, FeOk w x ∧ mayF x.1.1 x.1.2.length = 0
  are : s.1 = (own.drop i).map putX
  ok : NtOk s
  small : ∀ x ∈ s.2, x ≤ M
  bel : Below w.heap.size w wr
theorem OrIn.below {w wr w' : World} {g t i : Nat} {own : List Fe} {v : Value} {s : NtS} {M : Int} (h : OrIn w g t own v s M i wr) (hb : Below wr.heap.size wr w') : OrIn w g t own v s M i w' := by
  obtain ⟨go, A, c, es, hN⟩ := h.net
  obtain ⟨A2, c2, e, hr⟩ := h.row
  exact ⟨⟨go, A, c, es, hN.below hb⟩, ⟨A2, c2, e, own_up hr hb⟩, h.each, h.are, h.ok, h.small, bel_bl h.bel hb⟩
/-- The net's step. -/
theorem OrIn.step {w wr w' : World} {g t i i' : Nat} {own : List Fe} {v : Value} {s s' : NtS} {M M' : Int} (h : OrIn w g t own v s M i wr) {go : Option Nat} {A : Option Addr} {c : Nat} {es : List Sl} (hN : NtIn w.heap.size wr g t go A c es s) {go' : Option Nat} {A' : Option Addr} {c' : Nat} {es' : List Sl} (hN' : NtIn w.heap.size w' g t go' A' c' es' s')
    (hG2 : NtGo wr w' (NtT g t go (wayB A)) (NtT g t go' (wayB A'))) (hare : s'.1 = (own.drop i').map putX) (hok : NtOk s') (hsm : ∀ x ∈ s'.2, x ≤ M') : OrIn w g t own v s' M' i' w' := by
  obtain ⟨A2, c2, e, hr⟩ := h.row
  refine ⟨⟨go', A', c', es', hN'⟩, ⟨A2, c2, e, own_kept hr hG2.k (fun b hb q => ?_)⟩, h.each, hare, hok, hsm, h.bel.trans (hN.far hG2 h.bel.size)⟩
  obtain ⟨cs, h1⟩ := ownK_whole hr hb
  exact hN.noFrame q h1
theorem at_putX {s : NtS} {own : List Fe} {i d : Nat} {x : Fe} (h : s.1 = (own.drop i).map putX) (hx : own[i + d]? = some x) (hm : mayF x.1.1 x.1.2.length = 0) : hasN s (d : Int) = true ∧ atN s (d : Int) = putX x ∧ atR s (d : Int) = (x.1.1, x.1.2, 0) := by
  have h1 : s.1[d]? = some (putX x) := by rw [h, List.getElem?_map, List.getElem?_drop, hx]; rfl
  have h2 : hasN s (d : Int) = true := decide_eq_true ⟨by omega, by have := (List.getElem?_eq_some_iff.1 h1).1; omega⟩
  have h3 : atN s (d : Int) = putX x := by unfold atN; rw [Int.toNat_natCast, List.getD_eq_getElem?_getD, h1]; rfl
  refine ⟨h2, h3, ?_⟩
  unfold atR
  rw [if_pos h2, h3]
  exact take_of_put hm
theorem deliv_putX {s : NtS} {own : List Fe} {i : Nat} {x : Fe} (h : s.1 = (own.drop i).map putX) (hx : own[i]? = some x) (hm : mayF x.1.1 x.1.2.length = 0) : (delivN s 0).1 = (own.drop (i + 1)).map putX := by
  obtain ⟨h1, h2, h3⟩ := at_putX (d := 0) h (by rw [Nat.add_zero]; exact hx) hm
  unfold delivN
  rw [if_pos (show hasN s 0 = true from h1)]
  show s.1.eraseIdx (0 : Int).toNat = _
  rw [h]
  have hlt := (List.getElem?_eq_some_iff.1 hx).1
  rw [List.drop_eq_getElem_cons hlt]
  rfl
theorem delivN_small {s : NtS} {i : Int} {M : Int} (h : ∀ x ∈ s.2, x ≤ M) (h0 : 0 ≤ M) : ∀ x ∈ (delivN s i).2, x ≤ M + 1 := by
  unfold delivN
  split
  · exact bump_le h h0
  · intro x hx; have := h x hx; omega
theorem dropN_small {s : NtS} {i : Int} {M : Int} (h : ∀ x ∈ s.2, x ≤ M) (h0 : 0 ≤ M) : ∀ x ∈ (dropN s i).2, x ≤ M + 1 := by
  unfold dropN
  split
  · exact bump_le h h0
  · intro x hx; have := h x hx; omega
theorem map_erase (f : Fe → List Nat) (L : List Fe) (m : Nat) : (L.map f).eraseIdx m = (L.eraseIdx m).map f := by
  induction L generalizing m with
  | nil => rfl
  | cons x L ih => cases m with
    | zero => rfl
    | succ m => show _ :: _ = _ :: _; rw [ih]
/-- An append to a row of frames. -/
theorem fe_app {w0 W : World} {v : Value} {n B : Nat} {Fs : List Fe} (hO : Ow w0 B 34 7 v n (rowsV feC Fs) W) (A : Option Addr) (m c : Nat) (Gs : List Fe) (hr : RdS W W.heap.size 7 A m c (rowsV feC Gs)) (hn : n + m ≤ 100000) :
    ∃ A' c' W', (Builtin.append_ #[35, 35] 35 #[v, .slice A m c]).run Try.prog W = .ok (.slice A' (n + m) c') W' ∧ Ow w0 B 34 7 (.slice A' (n + m) c') (n + m) (rowsV feC (Fs ++ Gs)) W' ∧ Below B W W' := by
  obtain ⟨i0, hi, hz0, hz1, hz2⟩ := info_parts_ info_frame
  obtain ⟨v', W', hrun, ho, hb, _, _⟩ := Ow.app2 (P := Try.prog) 35 35 34 i0 _ 7 72 _ Try.underlying35 hi hz0 hz1 hz2 rfl (by decide) _ _ _ hO W.heap.size A m c _ hr (rowsV_one feC feC_one Gs) (by unfold maxLen; omega) (by omega)
  rw [← rowsV_app] at ho
  obtain ⟨A', c', rfl, _⟩ := ho.rds
  exact ⟨A', c', W', hrun, ho, hb⟩
set_option maxRecDepth 100000 in
set_option maxHeartbeats 16000000 in
theorem law_order (A : Option Addr) (n c : Nat) (Fs : List Fe) (a : Int) (w : World) (h : FesIn w A n c Fs) (hn : n ≤ maxLen) (hlow : ∀ x ∈ Fs, ∀ a, x.2.1 = some a → 0 < x.1.2.length → a.block < w.heap.size) :
    Calls Try.prog 5 #[.slice A n c, .int .i64 a] w fun e w' => e = .returned (.bool true) ∧ Below w.heap.size w w' := by
  have HF := Lib.hid h
  have Hl : RowKit.Hid (Fs.length = n) := Lib.hid h.len
  have HLow := Lib.hid hlow
  unfold maxLen at hn
  obtain ⟨i0, hi0, hz0, hz1, hz2⟩ := info_parts_ info_frame
  clear h hlow
  go_enter Try.func5, Try.ntmps5
  go_wp2_with fail
  refine (shown21 w).mono ?_
  rintro e w1 ⟨rfl, hb1⟩
  have HB1 := Lib.hid hb1
  clear hb1
  go_wp2_with fail
  refine (nt_new w1).mono ?_
  rintro e w2 ⟨g, t, rfl, hW, hT, hg, ht, -, hb⟩
  have HN2 := Lib.hid ((NtIn.new hW hT hg ht).lo_ HB1.out.size)
  have HB2 := Lib.hid (bel_bl HB1.out hb)
  clear hW hT hg ht hb HB1
  go_upto_region 7 with fail
  have H0 : RowKit.Hid (OrIn w g t [] (.slice (some ⟨w2.heap.size, 0, none⟩) 0 0) zeroN 0 0 (w2.alloc (.cells #[] 34))) := Lib.hid ⟨⟨_, _, _, _, HN2.out.below (below1 w2 (.cells #[] 34))⟩, ⟨_, _, rfl, (Ow.new_ (w := w) (B := w.heap.size) (e := 34) (size := 7) (cs := #[]) HB2.out (Nat.le_refl _) HB2.out.size (Nat.zero_le _) rfl).own⟩, (by simp), rfl, zeroN_ok, by decide, bel_al HB2.out _⟩
  obtain ⟨w3, gw3⟩ : ∃ z, w2.alloc (.cells #[] 34) = z := ⟨_, rfl⟩
  obtain ⟨v3, gv3⟩ : ∃ z : Value, .slice (some ⟨w2.heap.size, 0, none⟩) 0 0 = z := ⟨_, rfl⟩
  rw [gw3, gv3] at H0
  rw [gw3, gv3]
  clear gw3 gv3 HN2 HB2
  go_loopw [7, 8] (fun v7 v8 wr => ∃ j : Nat, j ≤ n ∧ j ≤ 30 ∧ v8 = .int .i64 (j : Int) ∧ RowKit.Hid (∃ own s, own.length ≤ j ∧ OrIn w g t own v7 s (j : Int) 0 wr)) (fun _ v8 _ => 30 - (intOf v8).toNat)
  case atStart => exact ⟨0, Nat.zero_le _, Nat.zero_le _, rfl, Lib.hid ⟨[], zeroN, Nat.le_refl _, H0.out⟩⟩
  case round =>
    clear H0
    obtain ⟨j, hj, hj8, rfl, hin⟩ := hrel
    by_cases hlt : j < n ∧ j < 30
    · obtain ⟨hl1, hl2⟩ := hlt
      have hi1 : (j : Int) < (n : Int) := by omega
      have hi2 : (j : Int) < 30 := by omega
      obtain ⟨own, s, hol, hOr⟩ := hin.out
      obtain ⟨x, hx⟩ : ∃ x, Fs[j]? = some x := ⟨_, List.getElem?_eq_getElem (by have := Hl.out; omega)⟩
      have hxm : x ∈ Fs := List.mem_of_getElem? hx
      obtain ⟨x', gx'⟩ : ∃ z, cutF x = z := ⟨_, rfl⟩
      have HX0 : RowKit.Hid (FeOk w x') := Lib.hid (gx' ▸ cutF_ok (HF.out.each x hxm))
      have HX0l : RowKit.Hid (∀ a, x'.2.1 = some a → 0 < x'.1.2.length → a.block < w.heap.size) := Lib.hid (fun a ha hp => by
        rw [← gx'] at ha hp
        have hp : 0 < (x.1.2.take 100).length := hp
        rw [List.length_take] at hp
        exact HLow.out x hxm a ha (by omega))
      have hfr := HF.out.below hOr.bel
      have hrow := hfr.row
      have hcap := hrow.le
      obtain ⟨j1, gj1⟩ : ∃ z, j + 1 = z := ⟨_, rfl⟩
      obtain ⟨A8, gA8⟩ : ∃ z, (if c = j then A else A.map (·.add (j * 7))) = z := ⟨_, rfl⟩
      have hr8 := (hrow.low_ (k := j) (by omega)).take_ 1 (by omega)
      rw [gA8, ← rowsV_drop feC feC_len, ← rowsV_take feC feC_len] at hr8
      have hdt : (Fs.drop j).take 1 = [x] := by
        have hlt := (List.getElem?_eq_some_iff.1 hx).1
        rw [List.drop_eq_getElem_cons hlt, List.take_succ_cons, List.take_zero]
        rw [List.getElem?_eq_getElem hlt] at hx
        rw [Option.some.inj hx]
      rw [hdt] at hr8
      have HF8 : RowKit.Hid (FesIn wr A8 1 (c - j) [x]) := Lib.hid ⟨hr8, fun z hz => by rw [List.mem_singleton.1 hz]; exact hfr.each x hxm⟩
      have HA8 : RowKit.Hid ((if c = j then A else A.map (·.add (j * 7))) = A8) := Lib.hid gA8
      have hw1 : IntKind.i64.wrap ((j : Int) + 1) = (j1 : Int) := by rw [IntWalk.i64_in _ (by omega)]; omega
      have hjj : j ≤ j1 := by omega
      have hjc : j1 ≤ c := by omega
      have hj11 : j1 - j = 1 := by omega
      have HOr := Lib.hid hOr
      have Hol := Lib.hid hol
      have Gj1 := Lib.hid gj1
      clear hx hxm hfr hrow hcap gA8 hr8 hdt hOr hin hol gj1
      go_upto_region 9 with fail
      refine wp_region_lit ?_
      refine wl_read (v := ?_) (some 39) rfl (by rfl) ?_ ?_
      rotate_left
      · go_simp; (try with_reducible rfl)
      simp only [Act.put, List.setIfInBounds_toArray, List.set_cons_zero, List.set_cons_succ]
      refine wl_read (v := ?_) (some 40) rfl (by rfl) ?_ ?_
      rotate_left
      · go_simp; (try with_reducible rfl)
      simp only [Act.put, List.setIfInBounds_toArray, List.set_cons_zero, List.set_cons_succ]
      refine wl_read (v := ?_) (some 41) rfl (by rfl) ?_ ?_
      rotate_left
      · go_simp; (try with_reducible rfl)
      simp only [Act.put, List.setIfInBounds_toArray, List.set_cons_zero, List.set_cons_succ]
      refine wl_read (v := ?_) (some 42) rfl (by rfl) ?_ ?_
      rotate_left
      · go_simp; (try with_reducible rfl)
      simp only [Act.put, List.setIfInBounds_toArray, List.set_cons_zero, List.set_cons_succ]
      refine wl_read (v := .slice A8 1 (c - j)) (some 43) rfl (by rfl) ?_ ?_
      · exact exec_slice_as 35 34 (.tmp 39) (.tmp 40) (.tmp 42) rfl Try.underlying35 (s := 7) (by kernel_rfl) rfl rfl rfl hjj hjc HA8.out hj11 rfl
      simp only [Act.put, List.setIfInBounds_toArray, List.set_cons_zero, List.set_cons_succ]
      clear hw1 hjj hjc hj11
      go_wp2_with fail
      refine (few21_any _ _ _ [x] wr HF8.out (by decide)).mono ?_
      rintro e w4 ⟨A4, c4, rfl, ho4, hb4⟩
      have hfe : fewF [x] = [x'] := by rw [← gx']; rfl
      rw [hfe] at ho4 ⊢
      obtain ⟨g4, jk, rfl, hlo4, hW4, hcl4, hnc4, -, -⟩ := own_place ho4 (Nat.zero_lt_one)
      have HE4 : RowKit.Hid (∀ j v, (feC x')[j]? = some v → w4.cell? ((⟨g4, 0, none⟩ : Addr).add j) = some v) := Lib.hid (fun j v hv => by
        rw [Addr.add_lit, Nat.zero_add]
        refine hW4.cell ?_
        rw [rowsFe1, List.getElem?_append_left (List.getElem?_eq_some_iff.1 hv).1]
        exact hv)
      have HOr4 := Lib.hid (HOr.out.below hb4)
      clear gx' hfe ho4 hlo4 hW4 hcl4 hb4 hnc4 HF8 HOr HA8
      rename_i hK
      refine hK _ _ ?_
      refine wl_read (v := .pointer (some ⟨g4, 0, none⟩)) (some 45) rfl (by rfl) ?_ ?_
      · go_simp; (try rfl)
      simp only [Act.put, List.setIfInBounds_toArray, List.set_cons_zero, List.set_cons_succ]
      refine wl_load_at (some 46) rfl (by rfl) 34 (.tmp 45) rfl ⟨g4, 0, none⟩ rfl (feC x') _ HE4.out Try.underlying34 rfl (by kernel_rfl) ?_
      simp only [Act.put, List.setIfInBounds_toArray, List.set_cons_zero, List.set_cons_succ]
      refine wl_new 9 rfl rfl rfl 34 (.tmp 46) rfl rfl #[.int .i64 0, .int .i64 0, .int .i64 0, .int .i64 0, .int .i64 0, .int .i64 0, .slice none 0 0] ?_ (feC x').toArray (by simp) rfl (by kernel_rfl) rfl (by simp [feC, frCells, Value.oneCell']) ?_
      · go_simp; (try with_reducible rfl)
      simp only [Act.put, List.setIfInBounds_toArray, List.set_cons_zero, List.set_cons_succ]
      have HY5 : RowKit.Hid (Whole (w4.alloc (.cells (feC x').toArray 34)) w4.heap.size 34 (feC x')) := Lib.hid (Whole.new_ _ _ _)
      have HOr5 := Lib.hid (HOr4.out.below (below1 w4 (.cells (feC x').toArray 34)))
      obtain ⟨Ao, co, rfl, hro⟩ := HOr4.out.row
      have HNo : RowKit.Hid (∀ b, (Value.slice Ao own.length co).ownBlock = some b → b < w4.heap.size) := Lib.hid (fun b hb => (hro.lt b hb).2)
      obtain ⟨w5, gw5⟩ : ∃ z, w4.alloc (.cells (feC x').toArray 34) = z := ⟨_, rfl⟩
      obtain ⟨b9, gb9⟩ : ∃ z, w4.heap.size = z := ⟨_, rfl⟩
      rw [gw5] at HY5 HOr5 ⊢
      rw [gb9] at HY5 HNo ⊢
      clear gw5 gb9 hK HOr4 HE4 hro
      go_upto_region 10 with fail
      refine wp_region_lit ?_
      refine wl_read (v := ?_) (some 47) rfl (by rfl) ?_ ?_
      rotate_left
      · go_simp; (try with_reducible rfl)
      simp only [Act.put, List.setIfInBounds_toArray, List.set_cons_zero, List.set_cons_succ]
      refine wl_load (some 48) rfl (by rfl) 34 (.tmp 9) rfl b9 rfl 34 (feC x') _ HY5.out Try.underlying34 rfl (by kernel_rfl) ?_
      simp only [Act.put, List.setIfInBounds_toArray, List.set_cons_zero, List.set_cons_succ]
      refine wl_buildSlice (some 49) rfl (by rfl) 35 34 1 #[(0, .tmp 48)] rfl Try.underlying35 (feC x').toArray (by kernel_rfl) ?_
      simp only [Act.put, List.setIfInBounds_toArray, List.set_cons_zero, List.set_cons_succ]
      have HL6 : RowKit.Hid (FesIn (w5.alloc (.cells (feC x').toArray 34)) (some ⟨w5.heap.size, 0, none⟩) 1 1 [x']) := Lib.hid ⟨by rw [rowsFe1]; exact RdS.of_whole (Whole.new_ _ _ _) rfl, fun z hz => by rw [List.mem_singleton.1 hz]; exact ⟨(HX0.out.rds.up HOr5.out.bel HOr5.out.bel.size).al _, HX0.out.bytes⟩⟩
      obtain ⟨go, An, cn, es, hN5⟩ := HOr5.out.net
      have HF6 : RowKit.Hid (FesFar (NtT g t go (wayB An)) (some ⟨w5.heap.size, 0, none⟩) 1 [x']) := Lib.hid ⟨fun a ha _ q => by obtain rfl := Option.some.inj ha; exact absurd (hN5.lt _ q).2 (Nat.lt_irrefl _), fun z hz a ha hp q => by rw [List.mem_singleton.1 hz] at ha hp; have h1 := HX0l.out a ha hp; have h2 := (hN5.lt _ q).1; omega⟩
      have hb6 := below1 w5 (.cells (feC x').toArray 34)
      have HOr6 := Lib.hid (HOr5.out.below hb6)
      have HN6 := Lib.hid (hN5.below hb6)
      have HY6 := Lib.hid (HY5.out.below hb6)
      obtain ⟨w6, gw6⟩ : ∃ z, w5.alloc (.cells (feC x').toArray 34) = z := ⟨_, rfl⟩
      obtain ⟨g6, gg6⟩ : ∃ z, w5.heap.size = z := ⟨_, rfl⟩
      rw [gw6] at HL6 HOr6 HN6 HY6 ⊢
      rw [gg6] at HL6 HF6 ⊢
      clear gw6 gg6 hb6 hN5 HOr5 HY5
      go_wp2_with fail
      refine (nt_send w6 HN6.out HOr6.out.ok _ 1 1 [x'] HL6.out (by decide) HF6.out (fun x hx => by have := HOr6.out.small x hx; omega)).mono ?_
      rintro e w7 ⟨rfl, go7, A7, c7, es7, hN, hG⟩
      rw [show keyF [x'] = [x'.1] from rfl, show sendN s [x'.1] = send1 s x'.1 from rfl] at hN
      rw [show keyF [x'] = [x'.1] from rfl, show sentN s [x'.1] = sends s x'.1 + 0 from rfl, Nat.add_zero]
      have HY7 := Lib.hid (hG.k.whole HY6.out (fun q => HN6.out.noFrame q HY6.out))
      have HM := Lib.hid (rfmay_any x'.1.1 x'.2.1 x'.1.2.length x'.2.2)
      have hok7 : NtOk (send1 s x'.1) := HOr6.out.ok.send1 x'.1 HX0.out.bytes
      have hsm7 := send1_small HOr6.out.small (by omega) x'.1
      have hsl : s.1.length = own.length := by rw [HOr6.out.are, List.length_map, List.drop_zero]
      have hol := Hol.out
      by_cases hm : mayF x'.1.1 x'.1.2.length = 0
      · have hrm := send1_room (s := s) (f := x'.1) hm (by omega)
        rw [hrm.1] at hN hok7 hsm7
        rw [hrm.2]
        rw [hm] at HM
        have HNk := Lib.hid hN
        have hOr7 : OrIn w g t own (.slice Ao own.length co) s (j : Int) 0 w6 := HOr6.out
        obtain ⟨Ap, cp, ep, hrp⟩ := HOr6.out.row
        have hrow7 : w7.ownsRow w.heap.size 34 7 (.slice Ao own.length co) own.length (rowsV feC own) := by
          rw [ep]
          exact own_kept hrp hG.k (fun b hb q => by obtain ⟨cs, h1⟩ := ownK_whole hrp hb; exact HN6.out.noFrame q h1)
        have HB7 := Lib.hid (HOr6.out.bel.trans (HN6.out.far hG HOr6.out.bel.size))
        have Hrow7 := Lib.hid hrow7
        have Hare : RowKit.Hid (s.1 ++ [putF x'.1.1 x'.1.2] = ((own ++ [x']).drop 0).map putX) := Lib.hid (by rw [HOr6.out.are, List.drop_zero, List.drop_zero, List.map_append]; rfl)
        have Hok7 := Lib.hid hok7
        have Hsm7 := Lib.hid hsm7
        have Heach := Lib.hid HOr6.out.each
        have Hm := Lib.hid hm
        have Hsl := Lib.hid hsl
        clear hrm hN hOr7 ep hrp hrow7 hok7 hsm7 hm hsl hG HOr6 HN6 HY6 HL6 HF6
        go_upto_region 11 with fail
        refine wp_region_lit ?_
        refine wl_load (some 51) rfl (by rfl) 34 (.tmp 9) rfl b9 rfl 34 (feC x') _ HY7.out Try.underlying34 rfl (by kernel_rfl) ?_
        simp only [Act.put, List.setIfInBounds_toArray, List.set_cons_zero, List.set_cons_succ]
        go_wp2_with fail
        refine (HM.out w7).mono ?_
        rintro e w8 ⟨rfl, hb8⟩
        have HY8 := Lib.hid (HY7.out.below hb8)
        have HN8 := Lib.hid (HNk.out.below hb8)
        have HB8 := Lib.hid (bel_bl HB7.out hb8)
        have Hrow8 := Lib.hid (own_up Hrow7.out hb8)
        clear hb8 HY7 HNk HB7 Hrow7
        go_upto_region 12 with fail
        refine wp_region_lit ?_
        refine wl_read (v := ?_) (some 54) rfl (by rfl) ?_ ?_
        rotate_left
        · go_simp; (try with_reducible rfl)
        simp only [Act.put, List.setIfInBounds_toArray, List.set_cons_zero, List.set_cons_succ]
        refine wl_load (some 55) rfl (by rfl) 34 (.tmp 9) rfl b9 rfl 34 (feC x') _ HY8.out Try.underlying34 rfl (by kernel_rfl) ?_
        simp only [Act.put, List.setIfInBounds_toArray, List.set_cons_zero, List.set_cons_succ]
        refine wl_buildSlice (some 56) rfl (by rfl) 35 34 1 #[(0, .tmp 55)] rfl Try.underlying35 (feC x').toArray (by kernel_rfl) ?_
        simp only [Act.put, List.setIfInBounds_toArray, List.set_cons_zero, List.set_cons_succ]
        have hb9 := below1 w8 (.cells (feC x').toArray 34)
        have HL9 : RowKit.Hid (RdS (w8.alloc (.cells (feC x').toArray 34)) (w8.alloc (.cells (feC x').toArray 34)).heap.size 7 (some ⟨w8.heap.size, 0, none⟩) 1 1 (rowsV feC [x'])) := Lib.hid (by rw [rowsFe1]; exact RdS.of_whole (Whole.new_ _ _ _) rfl)
        have HO9 : RowKit.Hid (Ow w w.heap.size 34 7 (.slice Ao own.length co) own.length (rowsV feC own) (w8.alloc (.cells (feC x').toArray 34))) := Lib.hid ⟨own_up Hrow8.out hb9, bel_bl HB8.out hb9, Nat.le_refl _, (bel_bl HB8.out hb9).size⟩
        have HN9 := Lib.hid (HN8.out.below hb9)
        have HY9 := Lib.hid (HY8.out.below hb9)
        obtain ⟨w9, gw9⟩ : ∃ z, w8.alloc (.cells (feC x').toArray 34) = z := ⟨_, rfl⟩
        obtain ⟨g9, gg9⟩ : ∃ z, w8.heap.size = z := ⟨_, rfl⟩
        rw [gw9] at HL9 HO9 HN9 HY9 ⊢
        rw [gg9] at HL9 ⊢
        clear gw9 gg9 hb9 HY8 HN8 HB8 Hrow8
        obtain ⟨k0, gk0⟩ : ∃ z, own.length = z := ⟨_, rfl⟩
        have Gk0 := Lib.hid gk0
        have hk0b : k0 ≤ 30 := by omega
        rw [gk0] at HO9 HNo Hsl ⊢
        clear gk0
        go_upto_region 13 with (first
          | (at_builtin
             refine wpList_push2 rfl (.tmp 54) (.tmp 56) _ rfl _ 34 i0 _ 7 72 Try.underlying35 hi0 hz0 hz1 hz2 rfl (by decide) _ _ _ rfl HO9.out _ _ _ _ _ rfl HL9.out (rowsV_one feC feC_one [x']) (by unfold maxLen; omega) (by omega) ?_
             intro v10 w10 how hb10 hgr
             rw [← rowsV_app] at how
             obtain ⟨A10, c10, rfl, -⟩ := how.rds
             have HO10 := Lib.hid how
             have HY10 := Lib.hid (HY9.out.grown hgr (fun q => by have := HNo.out b9 q.symm; omega))
             have hkg : Kept (fun b => some b = (Value.slice Ao k0 co).ownBlock) w9 w10 := ⟨hgr.os, hgr.tape, hgr.output, hgr.size, fun i hi hne => hgr.block i hi hne⟩
             have HN10 := Lib.hid (HN9.out.keep hkg (fun b hb q => by obtain ⟨cs, h1⟩ := ownK_whole HO9.out.own q.symm; exact HN9.out.noFrame hb h1) (fun b q => by obtain ⟨cs, h1⟩ := ownK_whole HO9.out.own q.symm; exact nob_whole h1 (by decide)))
             clear how hb10 hgr hkg))
        have HOr10 : RowKit.Hid (OrIn w g t (own ++ [x']) (.slice A10 (k0 + 1) c10) (s.1 ++ [putF x'.1.1 x'.1.2], bump s.2 0) ((j : Int) + 1) 0 w10) := Lib.hid ⟨⟨_, _, _, _, HN10.out⟩, ⟨A10, c10, by rw [List.length_append, Gk0.out]; rfl, by rw [show (own ++ [x']).length = k0 + 1 by rw [List.length_append, Gk0.out]; rfl]; exact HO10.out.own⟩, fun z hz => by
          rcases List.mem_append.1 hz with q | q
          · exact Heach.out z q
          · rw [List.mem_singleton.1 q]; exact ⟨HX0.out, Hm.out⟩, Hare.out, Hok7.out, Hsm7.out, HO10.out.below⟩
        have hnn : (s.1 ++ [putF x'.1.1 x'.1.2]).length = k0 + 1 := by rw [List.length_append, Hsl.out]; rfl
        have Hnn := Lib.hid hnn
        clear HO9 HL9 HN9 HY9 HO10 HN10 hnn
        refine wp_region_lit ?_
        refine wl_read (v := ?_) (some 58) rfl (by rfl) ?_ ?_
        rotate_left
        · go_simp; (try with_reducible rfl)
        simp only [Act.put, List.setIfInBounds_toArray, List.set_cons_zero, List.set_cons_succ]
        refine wl_read (v := ?_) (some 59) rfl (by rfl) ?_ ?_
        rotate_left
        · go_simp; (try with_reducible rfl)
        simp only [Act.put, List.setIfInBounds_toArray, List.set_cons_zero, List.set_cons_succ]
        refine wl_load (some 60) rfl (by rfl) 34 (.tmp 9) rfl b9 rfl 34 (feC x') _ HY10.out Try.underlying34 rfl (by kernel_rfl) ?_
        simp only [Act.put, List.setIfInBounds_toArray, List.set_cons_zero, List.set_cons_succ]
        go_wp2_with (first
          | (go_at_call 22
             refine (HM.out w10).mono ?_
             rintro e wm ⟨rfl, hbm⟩
             have HOrm := Lib.hid (HOr10.out.below hbm)
             obtain ⟨go2, An2, cn2, es2, hNm⟩ := HOrm.out.net
             have hbxm := hNm.box
             rw [Hnn.out] at hbxm
             have HLm := Lib.hid (nt_len g An2 (k0 + 1) cn2 t wm hbxm)
             clear hbm hNm hbxm)
          | (go_at_call 14
             refine HLm.out.mono ?_
             rintro e wl ⟨rfl, hwl⟩
             replace hwl := hwl.symm
             subst hwl))
        go_roundw
        case rel =>
          refine ⟨j + 1, by omega, by omega, by go_num, Lib.hid ⟨own ++ [x'], (s.1 ++ [putF x'.1.1 x'.1.2], bump s.2 0), by rw [List.length_append, Gk0.out]; simp; have := Hol.out; have := Gk0.out; omega, ?_⟩⟩
          have h9 := HOrm.out
          exact ⟨h9.net, h9.row, h9.each, h9.are, h9.ok, fun x hx => by have := h9.small x hx; omega, h9.bel⟩
        case measure => simp [intOf]; omega
      · have hrn := send1_not (s := s) (f := x'.1) hm
        rw [hrn.1] at hN
        rw [hrn.2]
        have HOr7 := Lib.hid (HOr6.out.step HN6.out hN hG HOr6.out.are HOr6.out.ok HOr6.out.small)
        obtain ⟨z, gz⟩ : ∃ z, mayF x'.1.1 x'.1.2.length = z := ⟨_, rfl⟩
        rw [gz] at HM
        have hz : (z == 0) = false := by rw [← gz]; simpa using hm
        have Hsl := Lib.hid hsl
        clear hrn hN hG hok7 hsm7 hm hsl HOr6 HN6 HY6 HL6 HF6 gz
        go_upto_region 11 with fail
        refine wp_region_lit ?_
        refine wl_load (some 51) rfl (by rfl) 34 (.tmp 9) rfl b9 rfl 34 (feC x') _ HY7.out Try.underlying34 rfl (by kernel_rfl) ?_
        simp only [Act.put, List.setIfInBounds_toArray, List.set_cons_zero, List.set_cons_succ]
        go_wp2_with fail
        refine (HM.out w7).mono ?_
        rintro e w8 ⟨rfl, hb8⟩
        have HY8 := Lib.hid (HY7.out.below hb8)
        have HOr8 := Lib.hid (HOr7.out.below hb8)
        clear hb8 HY7 HOr7
        go_upto_region 13 with fail
        refine wp_region_lit ?_
        refine wl_read (v := ?_) (some 58) rfl (by rfl) ?_ ?_
        rotate_left
        · go_simp; (try with_reducible rfl)
        simp only [Act.put, List.setIfInBounds_toArray, List.set_cons_zero, List.set_cons_succ]
        refine wl_read (v := ?_) (some 59) rfl (by rfl) ?_ ?_
        rotate_left
        · go_simp; (try with_reducible rfl)
        simp only [Act.put, List.setIfInBounds_toArray, List.set_cons_zero, List.set_cons_succ]
        refine wl_load (some 60) rfl (by rfl) 34 (.tmp 9) rfl b9 rfl 34 (feC x') _ HY8.out Try.underlying34 rfl (by kernel_rfl) ?_
        simp only [Act.put, List.setIfInBounds_toArray, List.set_cons_zero, List.set_cons_succ]
        go_wp2_with (first
          | (go_at_call 22
             refine (HM.out w8).mono ?_
             rintro e wm ⟨rfl, hbm⟩
             have HOrm := Lib.hid (HOr8.out.below hbm)
             obtain ⟨go2, An2, cn2, es2, hNm⟩ := HOrm.out.net
             have hbxm := hNm.box
             rw [Hsl.out] at hbxm
             have HLm := Lib.hid (nt_len g An2 own.length cn2 t wm hbxm)
             clear hbm hNm hbxm)
          | (go_at_call 14
             refine HLm.out.mono ?_
             rintro e wl ⟨rfl, hwl⟩
             replace hwl := hwl.symm
             subst hwl))
        go_roundw
        case rel =>
          refine ⟨j + 1, by omega, by omega, by go_num, Lib.hid ⟨own, s, by have := Hol.out; omega, ?_⟩⟩
          have h9 := HOrm.out
          exact ⟨h9.net, h9.row, h9.each, h9.are, h9.ok, fun x hx => by have := h9.small x hx; omega, h9.bel⟩
        case measure => simp [intOf]; omega
    · have h9 : ¬ ((j : Int) < (n : Int) ∧ (j : Int) < 30) := fun q => hlt ⟨by omega, by omega⟩
      go_upto_region 7 with fail
      go_cut [36] (fun v z => v = .bool false ∧ z = wr)
      case first =>
        by_cases hkn2 : (j : Int) < (n : Int)
        · have hk6b : decide ((j : Int) < 30) = false := decide_eq_false (fun q => h9 ⟨hkn2, q⟩)
          clear h9 hlt
          go_wp2_with fail
          go_meet
          exact ⟨rfl, rfl⟩
        · have hk6b : decide ((j : Int) < (n : Int)) = false := decide_eq_false hkn2
          clear h9 hlt
          go_wp2_with fail
          go_meet
          exact ⟨rfl, rfl⟩
      case rest =>
        obtain ⟨rfl, hz⟩ := hcut
        replace hz := hz.symm
        subst hz
        clear h9 hlt
        obtain ⟨own, s, hol, hOr⟩ := hin.out
        have hol30 : own.length ≤ 30 := by omega
        have HOr : RowKit.Hid (OrIn w g t own _ s 30 0 wr) := Lib.hid ⟨hOr.net, hOr.row, hOr.each, hOr.are, hOr.ok, fun x hx => by have := hOr.small x hx; omega, hOr.bel⟩
        clear hin hol hOr hj hj8
        obtain ⟨Ao, co, rfl, hro⟩ := HOr.out.row
        obtain ⟨K, gK⟩ : ∃ z, own.length = z := ⟨_, rfl⟩
        have GK := Lib.hid gK
        have HRo := Lib.hid hro
        obtain ⟨bq, gbq⟩ : ∃ z, decide ((0 : Int) ≤ a ∧ a < (K : Int)) = z := ⟨_, rfl⟩
        have Gbq := Lib.hid gbq
        rw [gK] at HOr HRo hol30 ⊢
        clear gK gbq hro
        go_upto_region 15 with fail
        go_cut [78] (fun v z => v = .bool bq ∧ z = wr)
        case first =>
          by_cases h0 : (0 : Int) ≤ a
          · by_cases h1 : a < (K : Int)
            · have hq0 : decide ((0 : Int) ≤ a) = true := decide_eq_true h0
              have hq1 : decide (a < (K : Int)) = true := decide_eq_true h1
              have hb : bq = true := by rw [← Gbq.out]; exact decide_eq_true ⟨h0, h1⟩
              subst hb
              clear h0 h1
              go_wp2_with fail
              go_meet
              exact ⟨rfl, rfl⟩
            · have hq0 : decide ((0 : Int) ≤ a) = true := decide_eq_true h0
              have hq1 : decide (a < (K : Int)) = false := decide_eq_false h1
              have hb : bq = false := by rw [← Gbq.out]; exact decide_eq_false (fun q => h1 q.2)
              subst hb
              clear h0 h1
              go_wp2_with fail
              go_meet
              exact ⟨rfl, rfl⟩
          · have hq0 : decide ((0 : Int) ≤ a) = false := decide_eq_false h0
            have hb : bq = false := by rw [← Gbq.out]; exact decide_eq_false (fun q => h0 q.1)
            subst hb
            clear h0
            go_wp2_with fail
            go_meet
            exact ⟨rfl, rfl⟩
        case rest =>
          obtain ⟨rfl, hz⟩ := hcut
          replace hz := hz.symm
          subst hz
          go_upto_if 78 with fail
          go_cut [7] (fun v z => ∃ own s, own.length ≤ 30 ∧ OrIn w g t own v s 31 0 z)
          case first =>
            obtain ⟨go, An, cn, es, hN⟩ := HOr.out.net
            have hsl : s.1.length = K := by rw [HOr.out.are, List.length_map, List.drop_zero, GK.out]
            have HD := Lib.hid (nt_drop' wr hN HOr.out.ok a (fun x hx => by have := HOr.out.small x hx; omega))
            have HN := Lib.hid hN
            cases bq with
            | true =>
              obtain ⟨h0, h1⟩ := of_decide_eq_true Gbq.out
              obtain ⟨m, rfl⟩ : ∃ m : Nat, a = (m : Int) := ⟨a.toNat, by omega⟩
              have hmK : m < K := by omega
              have hh : hasN s (m : Int) = true := decide_eq_true ⟨h0, by rw [hsl]; exact h1⟩
              have hE : hasE s (m : Int) = 0 := by unfold hasE; rw [if_pos hh]
              have HDr : RowKit.Hid ((dropN s (m : Int)).1 = ((own.eraseIdx m).drop 0).map putX) := Lib.hid (by
                unfold dropN
                rw [if_pos hh]
                show s.1.eraseIdx (m : Int).toNat = _
                rw [HOr.out.are, Int.toNat_natCast, List.drop_zero, List.drop_zero, map_erase])
              rw [hE] at HD
              have hcap := own_cap HRo.out
              clear hN hsl h0 h1 hh hE
              go_wp2_with fail
              refine HD.out.mono ?_
              rintro e w2 ⟨rfl, go2, A2, c2, es2, hN2, hG2⟩
              have hr2 : w2.ownsRow w.heap.size 34 7 (.slice Ao K co) K (rowsV feC own) := own_kept HRo.out hG2.k (fun b hb q => by obtain ⟨cs, h1⟩ := ownK_whole HRo.out hb; exact HN.out.noFrame q h1)
              have HB2 := Lib.hid (HOr.out.bel.trans (HN.out.far hG2 HOr.out.bel.size))
              have HN2 := Lib.hid hN2
              have hrow := (own_up hr2 ((Below.refl w2.heap.size w2).drew) : w2.drew.ownsRow w.heap.size 34 7 (.slice Ao K co) K (rowsV feC own))
              have hrd := own_rds hrow
              have hlen := hrd.le
              obtain ⟨b, o, rfl, hlt, -⟩ := hrd.place feC_len (by decide) (by omega)
              obtain ⟨m1, gm1⟩ : ∃ z, m + 1 = z := ⟨_, rfl⟩
              have hr3 := hrd.take_ m (by omega)
              rw [← rowsV_take feC feC_len] at hr3
              have hr4 := hrd.low_ (k := m1) (by omega)
              rw [← rowsV_drop feC feC_len] at hr4
              obtain ⟨A9, gA9⟩ : ∃ z, (if co = m1 then (some ⟨b, o, none⟩ : Option Addr) else (some (⟨b, o, none⟩ : Addr)).map (·.add (m1 * 7))) = z := ⟨_, rfl⟩
              rw [gA9] at hr4
              have HA9 : RowKit.Hid ((if co = m1 then (some ⟨b, o, none⟩ : Option Addr) else (some (⟨b, o, none⟩ : Addr)).map (·.add (m1 * 7))) = A9) := Lib.hid gA9
              have HR1 := Lib.hid hr3
              have HR2 := Lib.hid hr4
              obtain ⟨B0, gB0⟩ : ∃ z, w2.drew.heap.size = z := ⟨_, rfl⟩
              have HB0 := Lib.hid gB0
              have HEr : RowKit.Hid ([] ++ own.take m ++ own.drop m1 = own.eraseIdx m ∧ (own.eraseIdx m).length = 0 + m + (K - m1)) := Lib.hid ⟨by rw [List.nil_append, ← gm1, List.eraseIdx_eq_take_drop_succ], by rw [List.length_eraseIdx, if_pos (by rw [GK.out]; exact hmK), GK.out]; omega⟩
              unfold maxLen at hcap
              have hw1 : IntKind.i64.wrap ((m : Int) + 1) = (m1 : Int) := by rw [IntWalk.i64_in _ (by omega)]; omega
              have hmc : m ≤ co := by omega
              have hm1K : m1 ≤ K := by omega
              have hmm1 : m ≤ m1 := by omega
              have HOk2 := Lib.hid (HOr.out.ok.drop (m : Int))
              have HSm2 := Lib.hid (dropN_small (i := (m : Int)) HOr.out.small (by omega))
              have HEach := Lib.hid HOr.out.each
              clear hr2 hN2 hG2 hrow hrd hlen hlt gm1 hr3 hr4 gA9 gB0 HOr HRo HN HD hmK
              go_upto_region 18 with fail
              refine wp_region_reg (From_ B0) (by kernel_rfl) ?_
              apply wpR_next 1 (some 84)
              · simp only [List.getElem?_toArray, List.getElem?_cons_succ, List.getElem?_cons_zero]; exact rfl
              · rfl
              · kernel_rfl
              · kernel_rfl
              · kernel_rfl
              · exact fun _ _ _ _ h => h
              apply Exists.intro
              apply And.intro
              · apply yr_run; rfl; intro w' hw'; go_simp; (try with_reducible rfl)
              simp only [Act.put, List.setIfInBounds_toArray, List.set_cons_zero, List.set_cons_succ]
              apply wpR_next 2 (some 85)
              · simp only [List.getElem?_toArray, List.getElem?_cons_succ, List.getElem?_cons_zero]; exact rfl
              · rfl
              · kernel_rfl
              · kernel_rfl
              · kernel_rfl
              · exact fun _ _ _ _ h => h
              apply Exists.intro
              apply And.intro
              · apply yr_run; rfl; intro w' hw'; go_simp; (try with_reducible rfl)
              simp only [Act.put, List.setIfInBounds_toArray, List.set_cons_zero, List.set_cons_succ]
              apply wpR_next 3 (some 86)
              · simp only [List.getElem?_toArray, List.getElem?_cons_succ, List.getElem?_cons_zero]; exact rfl
              · rfl
              · kernel_rfl
              · kernel_rfl
              · kernel_rfl
              · exact fun _ _ _ _ h => h
              apply Exists.intro
              apply And.intro
              · apply yr_run; rfl; intro w' hw'; exact exec_slice_high 35 34 (.tmp 84) (.tmp 85) rfl Try.underlying35 (s := 7) (by kernel_rfl) rfl rfl hmc
              simp only [Act.put, List.setIfInBounds_toArray, List.set_cons_zero, List.set_cons_succ]
              apply wpR_next 5 (some 88)
              · simp only [List.getElem?_toArray, List.getElem?_cons_succ, List.getElem?_cons_zero]; exact rfl
              · rfl
              · kernel_rfl
              · kernel_rfl
              · kernel_rfl
              · exact fun _ _ _ _ h => h
              apply Exists.intro
              apply And.intro
              · apply yr_run; rfl; intro w' hw'; go_simp; (try with_reducible rfl)
              simp only [Act.put, List.setIfInBounds_toArray, List.set_cons_zero, List.set_cons_succ]
              apply wpR_next 6 (some 89)
              · simp only [List.getElem?_toArray, List.getElem?_cons_succ, List.getElem?_cons_zero]; exact rfl
              · rfl
              · kernel_rfl
              · kernel_rfl
              · kernel_rfl
              · exact fun _ _ _ _ h => h
              apply Exists.intro
              apply And.intro
              · apply yr_run; rfl; intro w' hw'; go_simp; (try with_reducible rfl)
              simp only [Act.put, List.setIfInBounds_toArray, List.set_cons_zero, List.set_cons_succ]
              apply wpR_next 7 (some 90)
              · simp only [List.getElem?_toArray, List.getElem?_cons_succ, List.getElem?_cons_zero]; exact rfl
              · rfl
              · kernel_rfl
              · kernel_rfl
              · kernel_rfl
              · exact fun _ _ _ _ h => h
              apply Exists.intro
              apply And.intro
              · apply yr_run; rfl; intro w' hw'; go_simp; (try with_reducible rfl)
              simp only [Act.put, List.setIfInBounds_toArray, List.set_cons_zero, List.set_cons_succ]
              apply wpR_next 8 (some 91)
              · simp only [List.getElem?_toArray, List.getElem?_cons_succ, List.getElem?_cons_zero]; exact rfl
              · rfl
              · kernel_rfl
              · kernel_rfl
              · kernel_rfl
              · exact fun _ _ _ _ h => h
              apply Exists.intro
              apply And.intro
              · apply yr_run; rfl; intro w' hw'; exact exec_slice_low_as 35 34 (.tmp 88) (.tmp 90) rfl Try.underlying35 (s := 7) (by kernel_rfl) rfl rfl hm1K HA9.out rfl rfl
              simp only [Act.put, List.setIfInBounds_toArray, List.set_cons_zero, List.set_cons_succ]
              apply wpR_run 0 (some 83)
              · simp only [List.getElem?_toArray, List.getElem?_cons_succ, List.getElem?_cons_zero]; exact rfl
              · rfl
              · kernel_rfl
              · rfl
              intro w' hw'
              refine ⟨.slice (some ⟨w'.heap.size, 0, none⟩) 0 0, w'.alloc (.cells #[] 34), ?_, Kept.of_below (below1 _ _), ?_⟩
              · go_simp; first | done | exact rfl
              have HO1 : RowKit.Hid (Ow w2.drew w2.drew.heap.size 34 7 (.slice (some ⟨w'.heap.size, 0, none⟩) 0 0) 0 (rowsV feC []) (w'.alloc (.cells #[] 34))) := Lib.hid (Ow.new_ (cs := #[]) hw' (Nat.le_refl _) hw'.size (Nat.zero_le _) rfl)
              obtain ⟨V1, gV1⟩ : ∃ x, w'.alloc (.cells #[] 34) = x := ⟨_, rfl⟩
              obtain ⟨v1, gv1⟩ : ∃ x : Value, .slice (some ⟨w'.heap.size, 0, none⟩) 0 0 = x := ⟨_, rfl⟩
              rw [gV1, gv1] at HO1
              rw [gV1, gv1]
              clear hw' gV1 gv1
              simp only [Act.put, List.setIfInBounds_toArray, List.set_cons_zero, List.set_cons_succ]
              apply wpR_run 4 (some 87)
              · simp only [List.getElem?_toArray, List.getElem?_cons_succ, List.getElem?_cons_zero]; exact rfl
              · rfl
              · kernel_rfl
              · rfl
              intro w' hw'
              have hO := HO1.out.up hw'
              obtain ⟨A2, c2, w'', hrun, hO2, hb2⟩ := fe_app hO (some ⟨b, o, none⟩) m co (own.take m) (HR1.out.up hO.below hO.below.size) (by omega)
              refine ⟨_, w'', exec_append (by rfl) (by rfl) (by rfl) hrun, (by rw [← HB0.out]; exact Kept.of_from hb2), ?_⟩
              have HO2 := Lib.hid hO2
              clear hw' hO hrun hO2 hb2 HO1
              obtain ⟨V2, gV2⟩ : ∃ x, w'' = x := ⟨_, rfl⟩
              rw [gV2] at HO2 ⊢
              clear gV2
              simp only [Act.put, List.setIfInBounds_toArray, List.set_cons_zero, List.set_cons_succ]
              apply wpR_run 9 (some 92)
              · simp only [List.getElem?_toArray, List.getElem?_cons_succ, List.getElem?_cons_zero]; exact rfl
              · rfl
              · kernel_rfl
              · rfl
              intro w' hw'
              have hO := HO2.out.up hw'
              obtain ⟨A3, c3, w'', hrun, hO2, hb2⟩ := fe_app hO A9 (K - m1) (co - m1) (own.drop m1) (HR2.out.up hO.below hO.below.size) (by omega)
              refine ⟨_, w'', exec_append (by rfl) (by rfl) (by rfl) hrun, (by rw [← HB0.out]; exact Kept.of_from hb2), ?_⟩
              have HO3 := Lib.hid hO2
              clear hw' hO hrun hO2 hb2 HO2
              obtain ⟨V3, gV3⟩ : ∃ x, w'' = x := ⟨_, rfl⟩
              rw [gV3] at HO3 ⊢
              clear gV3
              simp only [Act.put, List.setIfInBounds_toArray, List.set_cons_zero, List.set_cons_succ]
              apply wpR_next 10 (some 7)
              · simp only [List.getElem?_toArray, List.getElem?_cons_succ, List.getElem?_cons_zero]; exact rfl
              · rfl
              · kernel_rfl
              · kernel_rfl
              · kernel_rfl
              · exact fun _ _ _ _ h => h
              apply Exists.intro
              apply And.intro
              · apply yr_run; rfl; intro w' hw'; go_simp; (try with_reducible rfl)
              simp only [Act.put, List.setIfInBounds_toArray, List.set_cons_zero, List.set_cons_succ]
              refine wpR_done (by kernel_rfl) ?_ _

              intro W6 hw6
              have hO6 := HO3.out.up hw6
              have hNd := (HN2.out.below ((Below.refl w2.heap.size w2).drew)).below hO6.below
              have HF6 : RowKit.Hid (OrIn w g t (own.eraseIdx m) (.slice A3 (0 + m + (K - m1)) c3) (dropN s (m : Int)) 31 0 W6) := Lib.hid ⟨⟨_, _, _, _, hNd⟩, ⟨A3, c3, by rw [HEr.out.2], by
                have h1 := own_lo hO6.own (show w.heap.size ≤ w2.drew.heap.size from HB2.out.size)
                rw [HEr.out.1] at h1
                rw [HEr.out.2]; exact h1⟩, fun z hz => HEach.out z (List.mem_of_mem_eraseIdx hz), HDr.out, HOk2.out, HSm2.out, HB2.out.drew.trans (hO6.below.mono HB2.out.size)⟩
              clear hw6 hO6 hNd HO3
              go_wp2_with fail
              go_meet
              exact ⟨own.eraseIdx m, dropN s (m : Int), by rw [HEr.out.2]; omega, by have h9 := HF6.out; rw [Nat.zero_add] at h9; exact h9⟩
            | false =>
              have hnn : ¬ (0 ≤ a ∧ a < (K : Int)) := of_decide_eq_false Gbq.out
              have hh : ¬ hasN s a = true := fun q => hnn (by have := of_decide_eq_true q; rw [hsl] at this; exact this)
              have hE : hasE s a = 1 := by unfold hasE; rw [if_neg hh]
              have hDr : dropN s a = s := by unfold dropN; rw [if_neg hh]
              rw [hE, hDr] at HD
              clear hN hsl hnn hh hE hDr
              go_wp2_with fail
              refine HD.out.mono ?_
              rintro e w2 ⟨rfl, go2, A2, c2, es2, hN2, hG2⟩
              have HOr2 := Lib.hid (HOr.out.step HN.out hN2 hG2 HOr.out.are HOr.out.ok (fun x hx => show x ≤ 31 by have := HOr.out.small x hx; omega))
              clear hN2 hG2 HN HD HOr HRo
              go_wp2_with fail
              go_meet
              exact ⟨own, s, by rw [GK.out]; exact hol30, HOr2.out⟩
          case rest =>
            clear HOr HRo Gbq GK hol30
            obtain ⟨own, s, hol, hOr⟩ := hcut
            obtain ⟨Ao, co, rfl, hro⟩ := hOr.row
            have HOr := Lib.hid hOr
            clear hOr hro
            obtain ⟨K, gK⟩ : ∃ z, own.length = z := ⟨_, rfl⟩
            have GK := Lib.hid gK
            rw [gK] at HOr hol ⊢
            clear gK
            go_upto_region 22 with fail
            go_loopw [11] (fun v11 wr => ∃ i : Nat, i ≤ K ∧ v11 = .int .i64 (i : Int) ∧ RowKit.Hid (∃ s, OrIn w g t own (.slice Ao K co) s (31 + (i : Int)) i wr)) (fun v11 _ => K - (intOf v11).toNat)
            case atStart => exact ⟨0, Nat.zero_le _, rfl, Lib.hid ⟨s, by have h9 := HOr.out; exact ⟨h9.net, h9.row, h9.each, h9.are, h9.ok, fun x hx => by have := h9.small x hx; omega, h9.bel⟩⟩⟩
            case round =>
              clear HOr
              obtain ⟨i, hi, rfl, hin⟩ := hrel
              obtain ⟨s, hOr⟩ := hin.out
              by_cases hiK : i < K
              · obtain ⟨K1, gK1⟩ : ∃ z, K - 1 = z := ⟨_, rfl⟩
                obtain ⟨d, gd⟩ : ∃ z, K1 - i = z := ⟨_, rfl⟩
                obtain ⟨x, hx⟩ : ∃ x, own[K1]? = some x := ⟨_, List.getElem?_eq_getElem (by have := GK.out; omega)⟩
                obtain ⟨y, hy⟩ : ∃ y, own[i]? = some y := ⟨_, List.getElem?_eq_getElem (by have := GK.out; omega)⟩
                have hxo := hOr.each x (List.mem_of_getElem? hx)
                have hyo := hOr.each y (List.mem_of_getElem? hy)
                obtain ⟨-, -, hat⟩ := at_putX (d := d) hOr.are (by rw [show i + d = K1 by omega]; exact hx) hxo.2
                obtain ⟨go, An, cn, es, hN⟩ := hOr.net
                have HA := Lib.hid (nt_at wr hN hOr.ok (d : Int))
                have HAT := Lib.hid hat
                have HXo := Lib.hid hxo.1
                have HYo := Lib.hid hyo
                have Hx := Lib.hid hx
                have Hy := Lib.hid hy
                have HOr := Lib.hid hOr
                obtain ⟨Aq, cq, eq_, hrq⟩ := hOr.row
                have hrr := own_rds hrq
                rw [GK.out] at eq_ hrr
                injection eq_ with e1 e2 e3
                clear e2
                subst e1 e3
                obtain ⟨bo, oo, rfl, hbo, hpo⟩ := hrr.place feC_len (by decide) (by omega)
                obtain ⟨go_, jko, e4, -, -, -, -, -, -⟩ := own_place hrq (by rw [GK.out]; omega)
                obtain rfl : oo = 0 := by injection e4 with e4; injection e4
                have HPo := Lib.hid hpo
                have hw1 : IntKind.i64.wrap ((K : Int) - 1) = (K1 : Int) := by rw [IntWalk.i64_in _ (by omega)]; omega
                have hw2 : IntKind.i64.wrap ((K1 : Int) - (i : Int)) = (d : Int) := by rw [IntWalk.i64_in _ (by omega)]; omega
                have hiI : (i : Int) < (K : Int) := by omega
                have hK1K : (K1 : Int) < (K : Int) := by omega
                have Gd : RowKit.Hid (d + i + 1 = K ∧ K1 = d + i) := Lib.hid (by omega)
                clear hxo hyo hat hN hx hy hOr hin hrq hrr e4 hpo gK1 gd
                go_upto_region 24 with fail
                go_wp2_with fail
                refine HA.out.mono ?_
                rintro e w2 ⟨A2, c2, rfl, hr, -, hb⟩
                rw [HAT.out] at hr ⊢
                have HR2 := Lib.hid hr
                have HOr2 := Lib.hid (HOr.out.below hb)
                have HBk := Lib.hid hb
                clear hr hb HA
                rename_i hK
                refine hK _ _ ?_
                refine wl_read (v := ?_) (some 103) rfl (by rfl) ?_ ?_
                rotate_left
                · go_simp; (try with_reducible rfl)
                simp only [Act.put, List.setIfInBounds_toArray, List.set_cons_zero, List.set_cons_succ]
                refine wl_read (v := .agg (frCells x.1.1 A2 x.1.2.length c2).toArray) (some 111) rfl (by rfl) ?_ ?_
                · go_simp; (try rfl)
                simp only [Act.put, List.setIfInBounds_toArray, List.set_cons_zero, List.set_cons_succ]
                refine wl_read (v := ?_) (some 112) rfl (by rfl) ?_ ?_
                rotate_left
                · go_simp; (try with_reducible rfl)
                simp only [Act.put, List.setIfInBounds_toArray, List.set_cons_zero, List.set_cons_succ]
                refine wl_new 12 rfl rfl rfl 34 (.tmp 111) rfl rfl #[.int .i64 0, .int .i64 0, .int .i64 0, .int .i64 0, .int .i64 0, .int .i64 0, .slice none 0 0] ?_ (frCells x.1.1 A2 x.1.2.length c2).toArray (by simp) rfl (by kernel_rfl) rfl (by simp [frCells, Value.oneCell']) ?_
                · go_simp; (try with_reducible rfl)
                simp only [Act.put, List.setIfInBounds_toArray, List.set_cons_zero, List.set_cons_succ]
                have hb3 := below1 w2 (.cells (frCells x.1.1 A2 x.1.2.length c2).toArray 34)
                have HY : RowKit.Hid (Whole (w2.alloc (.cells (frCells x.1.1 A2 x.1.2.length c2).toArray 34)) w2.heap.size 34 (frCells x.1.1 A2 x.1.2.length c2)) := Lib.hid (Whole.new_ _ _ _)
                have HRa := Lib.hid (HR2.out.bl hb3)
                have HOr3 := Lib.hid (HOr2.out.below hb3)
                have hbw := bel_bl HBk.out hb3
                have hpx : ∀ j v, (feC x)[j]? = some v → (w2.alloc (.cells (frCells x.1.1 A2 x.1.2.length c2).toArray 34)).drew.cell? ((⟨bo, K1 * 7, none⟩ : Addr).add j) = some v := fun j v hv => by
                  have h1 := HPo.out K1 x Hx.out j v hv
                  rw [Nat.zero_add] at h1
                  exact (hbw.cell (p := (⟨bo, K1 * 7, none⟩ : Addr).add j) (by rw [add_block]; exact hbo)).trans h1
                have HPx := Lib.hid hpx
                have HBw := Lib.hid hbw
                obtain ⟨w3, gw3⟩ : ∃ z, w2.alloc (.cells (frCells x.1.1 A2 x.1.2.length c2).toArray 34) = z := ⟨_, rfl⟩
                obtain ⟨b12, gb12⟩ : ∃ z, w2.heap.size = z := ⟨_, rfl⟩
                rw [gw3] at HY HRa HOr3 HPx HBw ⊢
                rw [gb12] at HY ⊢
                have HRb := Lib.hid (HXo.out.rds.up HOr3.out.bel HOr3.out.bel.size)
                clear gw3 gb12 hb3 hbw hpx HR2 HOr2 HBk hK hw2
                go_upto_region 25 with fail
                refine wp_region_reg (Nil_) (by kernel_rfl) ?_
                apply wpR_next 0 (some 113)
                · simp only [List.getElem?_toArray, List.getElem?_cons_succ, List.getElem?_cons_zero]; exact rfl
                · rfl
                · kernel_rfl
                · kernel_rfl
                · kernel_rfl
                · exact fun _ _ _ _ h => h
                apply Exists.intro
                apply And.intro
                · exact yr_load (by rfl) 34 (.tmp 12) rfl b12 rfl 34 (frCells x.1.1 A2 x.1.2.length c2) _ (fun w' h => h.whole HY.out.dr (fun h => h)) Try.underlying34 rfl (by kernel_rfl)
                simp only [Act.put, List.setIfInBounds_toArray, List.set_cons_zero, List.set_cons_succ]
                apply wpR_next 1 (some 114)
                · simp only [List.getElem?_toArray, List.getElem?_cons_succ, List.getElem?_cons_zero]; exact rfl
                · rfl
                · kernel_rfl
                · kernel_rfl
                · kernel_rfl
                · exact fun _ _ _ _ h => h
                apply Exists.intro
                apply And.intro
                · apply yr_run; rfl; intro w' hw'; go_simp; (try with_reducible rfl)
                simp only [Act.put, List.setIfInBounds_toArray, List.set_cons_zero, List.set_cons_succ]
                apply wpR_next 2 (some 115)
                · simp only [List.getElem?_toArray, List.getElem?_cons_succ, List.getElem?_cons_zero]; exact rfl
                · rfl
                · kernel_rfl
                · kernel_rfl
                · kernel_rfl
                · exact fun _ _ _ _ h => h
                apply Exists.intro
                apply And.intro
                · apply yr_run; rfl; intro w' hw'; go_simp; (try with_reducible rfl)
                simp only [Act.put, List.setIfInBounds_toArray, List.set_cons_zero, List.set_cons_succ]
                apply wpR_next 3 (some 116)
                · simp only [List.getElem?_toArray, List.getElem?_cons_succ, List.getElem?_cons_zero]; exact rfl
                · rfl
                · kernel_rfl
                · kernel_rfl
                · kernel_rfl
                · exact fun _ _ _ _ h => h
                apply Exists.intro
                apply And.intro
                · apply yr_run; rfl; intro w' hw'; go_simp; (try with_reducible rfl)
                simp only [Act.put, List.setIfInBounds_toArray, List.set_cons_zero, List.set_cons_succ]
                apply wpR_next 4 (some 117)
                · simp only [List.getElem?_toArray, List.getElem?_cons_succ, List.getElem?_cons_zero]; exact rfl
                · rfl
                · kernel_rfl
                · kernel_rfl
                · kernel_rfl
                · exact fun _ _ _ _ h => h
                apply Exists.intro
                apply And.intro
                · apply yr_run; rfl; intro w' hw'; go_simp; (try with_reducible rfl)
                simp only [Act.put, List.setIfInBounds_toArray, List.set_cons_zero, List.set_cons_succ]
                apply wpR_next 5 (some 118)
                · simp only [List.getElem?_toArray, List.getElem?_cons_succ, List.getElem?_cons_zero]; exact rfl
                · rfl
                · kernel_rfl
                · kernel_rfl
                · kernel_rfl
                · exact fun _ _ _ _ h => h
                apply Exists.intro
                apply And.intro
                · apply yr_run; rfl; intro w' hw'; go_simp; (try with_reducible rfl)
                simp only [Act.put, List.setIfInBounds_toArray, List.set_cons_zero, List.set_cons_succ]
                apply wpR_next 6 (some 119)
                · simp only [List.getElem?_toArray, List.getElem?_cons_succ, List.getElem?_cons_zero]; exact rfl
                · rfl
                · kernel_rfl
                · kernel_rfl
                · kernel_rfl
                · exact fun _ _ _ _ h => h
                apply Exists.intro
                apply And.intro
                · exact yr_load_at (by rfl) 34 (.tmp 118) rfl ⟨bo, K1 * 7, none⟩ rfl (feC x) _ (fun w' h j v hv => h.nil_cell (show _ = _ from HPx.out j v hv)) Try.underlying34 rfl (by kernel_rfl)
                simp only [Act.put, List.setIfInBounds_toArray, List.set_cons_zero, List.set_cons_succ]
                apply wpR_call 7 (some 120)
                · simp only [List.getElem?_toArray, List.getElem?_cons_succ, List.getElem?_cons_zero]; exact rfl
                · rfl
                · kernel_rfl
                · rfl
                · intro w'; go_simp; first | done | exact ⟨rfl, rfl⟩ | with_reducible rfl
                intro w' hw'
                refine (same_any x.1.1 x.1.1 A2 x.2.1 x.1.2.length c2 x.1.2.length x.2.2 x.1.2 x.1.2 w' (HRa.out.bl (Ext.trans (Below.drew (Below.refl _ _)) hw')) (HRb.out.bl (Ext.trans (Below.drew (Below.refl _ _)) hw'))).mono ?_
                rintro e w'' ⟨rfl, hb2⟩
                rw [sameF_self]
                refine ⟨_, rfl, Kept.of_below hb2, ?_⟩
                have HXb := Lib.hid (Ext.trans (Ext.trans (Below.drew (Below.refl _ _)) hw') hb2)
                clear hw' hb2
                obtain ⟨V1, gV1⟩ : ∃ x, w'' = x := ⟨_, rfl⟩
                rw [gV1] at HXb ⊢
                clear gV1
                simp only [Act.put, List.setIfInBounds_toArray, List.set_cons_zero, List.set_cons_succ]
                apply wpR_next 8 (some 14)
                · simp only [List.getElem?_toArray, List.getElem?_cons_succ, List.getElem?_cons_zero]; exact rfl
                · rfl
                · kernel_rfl
                · kernel_rfl
                · kernel_rfl
                · exact fun _ _ _ _ h => h
                apply Exists.intro
                apply And.intro
                · apply yr_run; rfl; intro w' hw'; go_simp; (try with_reducible rfl)
                simp only [Act.put, List.setIfInBounds_toArray, List.set_cons_zero, List.set_cons_succ]
                refine wpR_done (by kernel_rfl) ?_ _
                intro w4 hw4
                have hb4 := Ext.trans HXb.out hw4
                have HOr4 := Lib.hid (HOr3.out.below hb4)
                have HBw4 := Lib.hid (bel_bl HBw.out hb4)
                clear hw4 hb4 HXb HY HRa HRb HPx HOr3 HBw
                go_upto_region 26 with fail
                go_cut [130] (fun v z => v = .bool false ∧ z = w4)
                case first =>
                  by_cases hi0 : i = 0
                  · subst hi0
                    go_wp2_with fail
                    go_meet
                    exact ⟨rfl, rfl⟩
                  · have hq : ((i : Int) == 0) = false := by rw [beq_eq_false_iff_ne]; omega
                    clear hi0
                    go_wp2_with fail
                    go_meet
                    exact ⟨rfl, rfl⟩
                case rest =>
                  obtain ⟨rfl, hz⟩ := hcut
                  replace hz := hz.symm
                  subst hz
                  obtain ⟨-, -, hat⟩ := at_putX (d := 0) HOr4.out.are (by rw [Nat.add_zero]; exact Hy.out) HYo.out.2
                  obtain ⟨go2, An2, cn2, es2, hN⟩ := HOr4.out.net
                  have HD := Lib.hid (nt_deliv w4 hN HOr4.out.ok 0 (fun x hx => by have := HOr4.out.small x hx; omega))
                  have HAT2 : RowKit.Hid (atR s 0 = (y.1.1, y.1.2, 0)) := Lib.hid hat
                  have HN := Lib.hid hN
                  have HAre := Lib.hid (deliv_putX HOr4.out.are Hy.out HYo.out.2)
                  have HOk := Lib.hid (HOr4.out.ok.deliv 0)
                  have HSm := Lib.hid (delivN_small (i := 0) HOr4.out.small (by omega))
                  clear hat hN
                  go_upto_region 28 with fail
                  go_wp2_with fail
                  refine HD.out.mono ?_
                  rintro e w5 ⟨A2, c2, rfl, hr, -, go5, es5, hN5, hG5⟩
                  rw [HAT2.out] at hr ⊢
                  have HR5 := Lib.hid hr
                  have HOr5 := Lib.hid (HOr4.out.step HN.out hN5 hG5 HAre.out HOk.out HSm.out)
                  obtain ⟨Ap, cp, ep, hrp⟩ := HOr5.out.row
                  have hrr := own_rds hrp
                  rw [GK.out] at ep hrr
                  injection ep with e1 e2 e3
                  clear e2
                  subst e1 e3
                  have hpo : ∀ j v, (feC y)[j]? = some v → w5.cell? ((⟨bo, i * 7, none⟩ : Addr).add j) = some v := fun j v hv => by
                    have h1 := hrr.cell ⟨bo, 0, none⟩ rfl (i * 7 + j) v (rowsV_get feC feC_len own i y Hy.out j v hv)
                    rw [Addr.add_lit] at h1 ⊢
                    rw [Nat.zero_add] at h1
                    exact h1
                  have HP5 := Lib.hid hpo
                  have HL5 : RowKit.Hid (bo < w5.heap.size) := Lib.hid (hrr.low _ rfl (by omega))
                  clear hr hN5 hG5 hrp hrr hpo HD HAT2 HN HAre HOk HSm HOr4
                  rename_i hK
                  refine hK _ _ ?_
                  refine wl_read (v := ?_) (some 131) rfl (by rfl) ?_ ?_
                  rotate_left
                  · go_simp; (try with_reducible rfl)
                  simp only [Act.put, List.setIfInBounds_toArray, List.set_cons_zero, List.set_cons_succ]
                  refine wl_read (v := .agg (frCells y.1.1 A2 y.1.2.length c2).toArray) (some 134) rfl (by rfl) ?_ ?_
                  · go_simp; (try rfl)
                  simp only [Act.put, List.setIfInBounds_toArray, List.set_cons_zero, List.set_cons_succ]
                  refine wl_read (v := ?_) (some 135) rfl (by rfl) ?_ ?_
                  rotate_left
                  · go_simp; (try with_reducible rfl)
                  simp only [Act.put, List.setIfInBounds_toArray, List.set_cons_zero, List.set_cons_succ]
                  refine wl_new 15 rfl rfl rfl 34 (.tmp 134) rfl rfl #[.int .i64 0, .int .i64 0, .int .i64 0, .int .i64 0, .int .i64 0, .int .i64 0, .slice none 0 0] ?_ (frCells y.1.1 A2 y.1.2.length c2).toArray (by simp) rfl (by kernel_rfl) rfl (by simp [frCells, Value.oneCell']) ?_
                  · go_simp; (try with_reducible rfl)
                  simp only [Act.put, List.setIfInBounds_toArray, List.set_cons_zero, List.set_cons_succ]
                  have hb6 := below1 w5 (.cells (frCells y.1.1 A2 y.1.2.length c2).toArray 34)
                  have HY : RowKit.Hid (Whole (w5.alloc (.cells (frCells y.1.1 A2 y.1.2.length c2).toArray 34)) w5.heap.size 34 (frCells y.1.1 A2 y.1.2.length c2)) := Lib.hid (Whole.new_ _ _ _)
                  have HRa := Lib.hid (HR5.out.bl hb6)
                  have HOr6 := Lib.hid (HOr5.out.below hb6)
                  have hpy : ∀ j v, (feC y)[j]? = some v → (w5.alloc (.cells (frCells y.1.1 A2 y.1.2.length c2).toArray 34)).drew.cell? ((⟨bo, i * 7, none⟩ : Addr).add j) = some v := fun j v hv => (hb6.cell (p := (⟨bo, i * 7, none⟩ : Addr).add j) (by rw [add_block]; exact HL5.out)).trans (HP5.out j v hv)
                  have HPy := Lib.hid hpy
                  obtain ⟨w6, gw6⟩ : ∃ z, w5.alloc (.cells (frCells y.1.1 A2 y.1.2.length c2).toArray 34) = z := ⟨_, rfl⟩
                  obtain ⟨b15, gb15⟩ : ∃ z, w5.heap.size = z := ⟨_, rfl⟩
                  rw [gw6] at HY HRa HOr6 HPy ⊢
                  rw [gb15] at HY ⊢
                  have HRb := Lib.hid (HYo.out.1.rds.up HOr6.out.bel HOr6.out.bel.size)
                  clear gw6 gb15 hb6 hpy HR5 HOr5 hK HP5 HL5
                  go_upto_region 29 with fail
                  refine wp_region_reg (Nil_) (by kernel_rfl) ?_
                  apply wpR_next 0 (some 136)
                  · simp only [List.getElem?_toArray, List.getElem?_cons_succ, List.getElem?_cons_zero]; exact rfl
                  · rfl
                  · kernel_rfl
                  · kernel_rfl
                  · kernel_rfl
                  · exact fun _ _ _ _ h => h
                  apply Exists.intro
                  apply And.intro
                  · exact yr_load (by rfl) 34 (.tmp 15) rfl b15 rfl 34 (frCells y.1.1 A2 y.1.2.length c2) _ (fun w' h => h.whole HY.out.dr (fun h => h)) Try.underlying34 rfl (by kernel_rfl)
                  simp only [Act.put, List.setIfInBounds_toArray, List.set_cons_zero, List.set_cons_succ]
                  apply wpR_next 1 (some 137)
                  · simp only [List.getElem?_toArray, List.getElem?_cons_succ, List.getElem?_cons_zero]; exact rfl
                  · rfl
                  · kernel_rfl
                  · kernel_rfl
                  · kernel_rfl
                  · exact fun _ _ _ _ h => h
                  apply Exists.intro
                  apply And.intro
                  · apply yr_run; rfl; intro w' hw'; go_simp; (try with_reducible rfl)
                  simp only [Act.put, List.setIfInBounds_toArray, List.set_cons_zero, List.set_cons_succ]
                  apply wpR_next 2 (some 138)
                  · simp only [List.getElem?_toArray, List.getElem?_cons_succ, List.getElem?_cons_zero]; exact rfl
                  · rfl
                  · kernel_rfl
                  · kernel_rfl
                  · kernel_rfl
                  · exact fun _ _ _ _ h => h
                  apply Exists.intro
                  apply And.intro
                  · apply yr_run; rfl; intro w' hw'; go_simp; (try with_reducible rfl)
                  simp only [Act.put, List.setIfInBounds_toArray, List.set_cons_zero, List.set_cons_succ]
                  apply wpR_next 3 (some 139)
                  · simp only [List.getElem?_toArray, List.getElem?_cons_succ, List.getElem?_cons_zero]; exact rfl
                  · rfl
                  · kernel_rfl
                  · kernel_rfl
                  · kernel_rfl
                  · exact fun _ _ _ _ h => h
                  apply Exists.intro
                  apply And.intro
                  · apply yr_run; rfl; intro w' hw'; go_simp; (try with_reducible rfl)
                  simp only [Act.put, List.setIfInBounds_toArray, List.set_cons_zero, List.set_cons_succ]
                  apply wpR_next 4 (some 140)
                  · simp only [List.getElem?_toArray, List.getElem?_cons_succ, List.getElem?_cons_zero]; exact rfl
                  · rfl
                  · kernel_rfl
                  · kernel_rfl
                  · kernel_rfl
                  · exact fun _ _ _ _ h => h
                  apply Exists.intro
                  apply And.intro
                  · exact yr_load_at (by rfl) 34 (.tmp 139) rfl ⟨bo, i * 7, none⟩ rfl (feC y) _ (fun w' h j v hv => h.nil_cell (show _ = _ from HPy.out j v hv)) Try.underlying34 rfl (by kernel_rfl)
                  simp only [Act.put, List.setIfInBounds_toArray, List.set_cons_zero, List.set_cons_succ]
                  apply wpR_call 5 (some 141)
                  · simp only [List.getElem?_toArray, List.getElem?_cons_succ, List.getElem?_cons_zero]; exact rfl
                  · rfl
                  · kernel_rfl
                  · rfl
                  · intro w'; go_simp; first | done | exact ⟨rfl, rfl⟩ | with_reducible rfl
                  intro w' hw'
                  refine (same_any y.1.1 y.1.1 A2 y.2.1 y.1.2.length c2 y.1.2.length y.2.2 y.1.2 y.1.2 w' (HRa.out.bl (Ext.trans (Below.drew (Below.refl _ _)) hw')) (HRb.out.bl (Ext.trans (Below.drew (Below.refl _ _)) hw'))).mono ?_
                  rintro e w'' ⟨rfl, hb2⟩
                  rw [sameF_self]
                  refine ⟨_, rfl, Kept.of_below hb2, ?_⟩
                  have HXb := Lib.hid (Ext.trans (Ext.trans (Below.drew (Below.refl _ _)) hw') hb2)
                  clear hw' hb2
                  obtain ⟨V1, gV1⟩ : ∃ x, w'' = x := ⟨_, rfl⟩
                  rw [gV1] at HXb ⊢
                  clear gV1
                  simp only [Act.put, List.setIfInBounds_toArray, List.set_cons_zero, List.set_cons_succ]
                  apply wpR_next 6 (some 17)
                  · simp only [List.getElem?_toArray, List.getElem?_cons_succ, List.getElem?_cons_zero]; exact rfl
                  · rfl
                  · kernel_rfl
                  · kernel_rfl
                  · kernel_rfl
                  · exact fun _ _ _ _ h => h
                  apply Exists.intro
                  apply And.intro
                  · apply yr_run; rfl; intro w' hw'; go_simp; (try with_reducible rfl)
                  simp only [Act.put, List.setIfInBounds_toArray, List.set_cons_zero, List.set_cons_succ]
                  refine wpR_done (by kernel_rfl) ?_ _

                  intro w7 hw7
                  have hb7 := Ext.trans HXb.out hw7
                  have HOr7 := Lib.hid (HOr6.out.below hb7)
                  clear hw7 hb7 HXb HY HRa HRb HPy HOr6
                  have hsl : (delivN s 0).1.length = d := by rw [HOr7.out.are, List.length_map, List.length_drop, GK.out]; have := Gd.out; omega
                  obtain ⟨go7, An7, cn7, es7, hN7⟩ := HOr7.out.net
                  have hbx := hN7.box
                  rw [hsl] at hbx
                  have HLn := Lib.hid (nt_len g An7 d cn7 t w7 hbx)
                  have hw2 : IntKind.i64.wrap ((K1 : Int) - (i : Int)) = (d : Int) := by have := Gd.out; rw [IntWalk.i64_in _ (by omega)]; omega
                  clear hsl hN7 hbx
                  go_wp2_with (first
                    | (go_at_call 14
                       refine HLn.out.mono ?_
                       rintro e wl ⟨rfl, hwl⟩
                       replace hwl := hwl.symm
                       subst hwl))
                  go_roundw
                  case rel =>
                    refine ⟨i + 1, by omega, by go_num, Lib.hid ⟨delivN s 0, ?_⟩⟩
                    have h9 := HOr7.out
                    exact ⟨h9.net, h9.row, h9.each, h9.are, h9.ok, fun x hx => by have := h9.small x hx; omega, h9.bel⟩
                  case measure => simp [intOf]; omega
              · obtain rfl : K = i := by omega
                have hs0 : s.1 = [] := by rw [hOr.are, List.drop_eq_nil_of_le (by rw [GK.out]; exact Nat.le_refl _)]; rfl
                have hh : ¬ hasN s 0 = true := fun q => by have := (of_decide_eq_true q).2; rw [hs0] at this; simp at this
                have hat : atR s 0 = (zeroF, [], 1) := by unfold atR; rw [if_neg hh]
                have hde : delivN s 0 = s := by unfold delivN; rw [if_neg hh]
                obtain ⟨go, An, cn, es, hN⟩ := hOr.net
                have HD := Lib.hid (nt_deliv wr hN hOr.ok 0 (fun x hx => by have := hOr.small x hx; omega))
                have HAT := Lib.hid hat
                have HDE := Lib.hid hde
                have HN := Lib.hid hN
                have HB := Lib.hid hOr.bel
                have Hs0 := Lib.hid hs0
                clear hh hat hde hN hOr hin hs0
                go_upto_region 32 with fail
                go_wp2_with fail
                refine HD.out.mono ?_
                rintro e w5 ⟨A2, c2, rfl, -, -, go5, es5, hN5, hG5⟩
                rw [HAT.out]
                rw [HDE.out] at hN5
                have HB5 := Lib.hid (HB.out.trans (HN.out.far hG5 HB.out.size))
                have HN5 := Lib.hid hN5
                clear hN5 hG5 HD HAT HDE HN HB
                rename_i hK
                refine hK _ _ ?_
                refine wl_read (v := ?_) (some 158) rfl (by rfl) ?_ ?_
                rotate_left
                · go_simp; (try with_reducible rfl)
                simp only [Act.put, List.setIfInBounds_toArray, List.set_cons_zero, List.set_cons_succ]
                refine wl_read (v := .agg (frCells zeroF A2 ([] : List Nat).length c2).toArray) (some 161) rfl (by rfl) ?_ ?_
                · go_simp; (try rfl)
                simp only [Act.put, List.setIfInBounds_toArray, List.set_cons_zero, List.set_cons_succ]
                refine wl_read (v := ?_) (some 162) rfl (by rfl) ?_ ?_
                rotate_left
                · go_simp; (try with_reducible rfl)
                simp only [Act.put, List.setIfInBounds_toArray, List.set_cons_zero, List.set_cons_succ]
                refine wl_new 18 rfl rfl rfl 34 (.tmp 161) rfl rfl #[.int .i64 0, .int .i64 0, .int .i64 0, .int .i64 0, .int .i64 0, .int .i64 0, .slice none 0 0] ?_ (frCells zeroF A2 ([] : List Nat).length c2).toArray (by simp) rfl (by kernel_rfl) rfl (by simp [frCells, Value.oneCell']) ?_
                · go_simp; (try with_reducible rfl)
                simp only [Act.put, List.setIfInBounds_toArray, List.set_cons_zero, List.set_cons_succ]
                have hb6 := below1 w5 (.cells (frCells zeroF A2 ([] : List Nat).length c2).toArray 34)
                have hbx := (HN5.out.below hb6).box
                rw [Hs0.out] at hbx
                have HLn := Lib.hid (nt_len g An 0 cn t _ hbx)
                have HB6 := Lib.hid (bel_bl HB5.out hb6)
                obtain ⟨w6, gw6⟩ : ∃ z, w5.alloc (.cells (frCells zeroF A2 ([] : List Nat).length c2).toArray 34) = z := ⟨_, rfl⟩
                rw [gw6] at HLn HB6 ⊢
                clear gw6 hb6 hbx HN5 HB5 hK
                go_wp2_with (first
                  | (go_at_call 14
                     refine HLn.out.mono ?_
                     rintro e wl ⟨rfl, hwl⟩
                     replace hwl := hwl.symm
                     subst hwl))
                go_ret
                exact ⟨rfl, HB6.out⟩
end Go.Proofs.Ytibbibpfnpjjdaa

/- 'NetOrder' answers true for any frames, whichever is dropped.
   No condition beyond the row's own. -/
namespace Go.Proofs.Ytibbibpfnpjjdaa
open Go.ChangeShapes Go.WideShapes Go.ChangeAt Go.RowKit
namespace lawNetOrder

set_option maxRecDepth 100000 in
theorem contract (H : Type) (enc : TypeId × Value → H) (W : World) (base : Nat) (args : Array Value) (ds gs : List (DataW H)) (before : List MemPlace)
    (hval : ∀ (j : Nat) t v, Try.f5.params[j]? = some t → args[j]? = some v → Value.okWide Try.prog W .any base t v)
    (hW : DataW.Whole enc Try.prog Try.f5.params.toList Rows.netOrderSpec.vars false W args.toList ds gs before) :
    Calls Try.prog 5 args W fun e W' => ∃ v, e = .returned v ∧ Rows.netOrderSpec.post enc Try.prog Try.f5 false true false false W args v W' := by
  have hW' := hW
  obtain ⟨p, q, hA, hV, rfl, hfz, hnd⟩ := hW
  obtain ⟨rfl, rfl⟩ := trodVars_none hV
  rw [Try.params5] at hA hval
  obtain ⟨v0, v1, d0, d1, p0, p1, rfl, rfl, rfl, h0, h1⟩ := trodAll_two hA
  obtain ⟨a, rfl, hx0⟩ := open_row1_slice (row1_frame H) Try.underlying35 (by kernel_rfl) frmCells_len (by decide) (hval 0 35 v0 rfl rfl) h0
  obtain ⟨x, rfl, h1b, -⟩ := open_int Try.underlying3 (hval 1 3 v1 rfl rfl) h1
  refine (law_order a.1 a.2.1 a.2.2.1 (a.2.2.2.map feOf) x W (fes_in hx0.2.1 hx0.2.2) (Nat.le_trans hx0.2.1.le hx0.1) (fes_low hx0.2.2)).mono fun e W' ⟨he, hb⟩ => ⟨_, he, ?_⟩
  exact law_post Try.laidOut (by kernel_rfl) (tb := 4) (by kernel_rfl) Try.underlying4 rfl ⟨rfl, rfl, rfl⟩ hW' hb

set_option maxRecDepth 100000 in
theorem lifted (os : Os) (started : os.Started) (H : Type) (enc : TypeId × Value → H) :
    ReturnsInHanded {} Try.checked os 5 .any (Rows.netOrderSpec.pre6 enc Try.prog Try.f5 Rows.netOrderRow.domain false) (Rows.netOrderSpec.post enc Try.prog Try.f5 false true false false) := by
  refine returnsInHanded_of_change (C := Try.checked) Try.own started (by kernel_rfl) Try.func5
    (ChangeSpec.witness6 (enc := enc) (C := Try.checked) false ⟨#[], #[.slice none 0 0, .int .i64 0], []⟩ 8 (by kernel_rfl) (by kernel_rfl) (by kernel_rfl) (by kernel_rfl)) ?_
  intro W base args ds gs before hval hW _ _
  exact contract H enc W base args ds gs before hval hW

theorem proved : Rows.NetOrderSaid :=
  OpenClaim.holds_of_wide 5 Try.f5 rfl rfl rfl rfl rfl rfl rfl ⟨rfl, rfl, rfl, rfl, rfl⟩ rfl rfl rfl rfl rfl (by kernel_rfl) Try.func5 (by kernel_rfl)
    (of_decide_eq_true (by kernel_rfl)) (by unfold Func.isWrapper; first | (rw [if_pos (by decide +kernel)]; kernel_rfl) | (rw [if_neg (by decide +kernel)]; exact ⟨rfl, rfl⟩))
    (fun os started H enc _ => lifted os started H enc)
end lawNetOrder
end Go.Proofs.Ytibbibpfnpjjdaa
