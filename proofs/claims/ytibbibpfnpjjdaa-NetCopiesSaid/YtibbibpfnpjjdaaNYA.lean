/- 'NetCopies' answers true for any calls ahead, and any on the copy.
   No condition beyond the row's own. -/
import Derived.Test.YtibbibpfnpjjdaaNAI
import Derived.Deep.DeepCutAuto
import Derived.Deep.CutBlock
import Derived.Test.YtibbibpfnpjjdaaRows

/- The law of the calls. -/
namespace Go.Proofs.Ytibbibpfnpjjdaa
open Go.RowKit
set_option linter.unusedSimpArgs false
set_option linter.unusedVariables false

theorem rows_ints (L : List Int) : rowsV intC L = ints L := by
  induction L with
  | nil => rfl
  | cons x L ih => show _ :: _ = _ :: _; rw [ih]; rfl
/-- The net was cloned: the new one beside the document's; the elder may be turned. -/
theorem TwIn.cloned {B : Nat} {w w1 : World} {g t : Nat} {go go' : Option Nat} {A : Option Addr} {c : Nat} {es : List Sl} {y : Nat} {A' : Option Addr} {c' : Nat} {es' : List Sl} {s : NtS} {g2 t2 : Nat} {go2 : Option Nat} {A2 : Option Addr} {c2 : Nat} (h : TwIn B w g t go A c es y A' c' es' s s) (hB : B ≤ w.heap.size)
    (h2 : NtIn w.heap.size w1 g2 t2 go2 A2 c2 es s) (h1 : NtIn B w1 g t go' A c es s) (hG : NtGo w w1 (NtT g t go (wayB A)) (NtT g t go' (wayB A))) (hap : ∀ b, NtT g2 t2 go2 (wayB A2) b → ¬ NtT g t go' (wayB A) b) :
    TwIn B w1 g2 t2 go2 A2 c2 es y A' c' es' s s ∧ TwIn B w1 g t go' A c es y A' c' es' s s ∧ ∀ b, TwS g2 t2 go2 A2 y A' b → ¬ NtT g t go' (wayB A) b := by
  have ht := (h.nstep h1 hG).1
  refine ⟨⟨h2.lo_ hB, ht.yt, fun b hb q => ?_⟩, ht, fun b hb q => ?_⟩
  · have := (h2.lt b hb).1; have := (h.yt.lt b q).2; omega
  · rcases hb with e | e
    · exact hap b e q
    · exact ht.far b q e
end Go.Proofs.Ytibbibpfnpjjdaa

/- The law of the counts. -/
namespace Go.Proofs.Ytibbibpfnpjjdaa
open Go.RowKit
set_option linter.unusedSimpArgs false
set_option linter.unusedVariables false

end Go.Proofs.Ytibbibpfnpjjdaa

/- The law of the turned bits. -/
namespace Go.Proofs.Ytibbibpfnpjjdaa
open Go.RowKit
set_option linter.unusedSimpArgs false
set_option linter.unusedVariables false

end Go.Proofs.Ytibbibpfnpjjdaa

/- The law of the copies. -/
namespace Go.Proofs.Ytibbibpfnpjjdaa
open Go.RowKit
set_option linter.unusedSimpArgs false
set_option linter.unusedVariables false

def runN (s : NtS) (L : List OpA) : NtS := L.foldl opN s
theorem runN_app (s : NtS) (L : List OpA) (x : OpA) : runN s (L ++ [x]) = opN (runN s L) x := by simp [runN]
def PlE (E : (Nat → Prop) → World → Prop) (M : Int) (w : World) (y g t : Nat) (s0 : NtS) (Os : List OpA) (j : Nat) (wr : World) : Prop :=
  ∃ go A c es A' c' es', TwIn w.heap.size wr g t go A c es y A' c' es' (runN s0 (Os.take j)) (runN s0 (Os.take j)) ∧ E (TwS g t go A y A') wr ∧ NtOk (runN s0 (Os.take j)) ∧ (∀ x ∈ (runN s0 (Os.take j)).2, x ≤ M + 6 * (j : Int)) ∧ Below w.heap.size w wr
theorem ap_step {S S' T : Nat → Prop} {w w' : World} (h : ∀ b, T b → ¬ S b) (hG : NtGo w w' S S') (hT : ∀ b, T b → b < w.heap.size) : ∀ b, T b → ¬ S' b := fun b hb q => by
  rcases hG.n b q with e | e
  · exact h b hb e
  · have := hT b hb; omega
def E1 (B g t : Nat) (S : Nat → Prop) (w : World) : Prop := NtIn B w g t none none 0 [] zeroN ∧ ∀ b, NtT g t none (wayB none) b → ¬ S b
theorem E1.step {B g t : Nat} {S S' : Nat → Prop} {w w' : World} (hG : NtGo w w' S S') (hn : ∀ b, S b → NoB w b) (h : E1 B g t S w) : E1 B g t S' w' :=
  ⟨h.1.keep hG.k h.2 hn, ap_step h.2 hG (fun b hb => (h.1.lt b hb).2)⟩
def E2 (B g t : Nat) (go : Option Nat) (A : Option Addr) (c : Nat) (es : List Sl) (y : Nat) (A' : Option Addr) (c' : Nat) (es' : List Sl) (s : NtS) (S : Nat → Prop) (w : World) : Prop :=
  TwIn B w g t go A c es y A' c' es' s s ∧ ∀ b, TwS g t go A y A' b → ¬ S b
theorem E2.step {B g t : Nat} {go : Option Nat} {A : Option Addr} {c : Nat} {es : List Sl} {y : Nat} {A' : Option Addr} {c' : Nat} {es' : List Sl} {s : NtS} {S S' : Nat → Prop} {w w' : World} (hG : NtGo w w' S S') (hn : ∀ b, S b → NoB w b) (h : E2 B g t go A c es y A' c' es' s S w) : E2 B g t go A c es y A' c' es' s S' w' :=
  ⟨h.1.keep hG.k h.2 hn, ap_step h.2 hG (fun b hb => (h.1.lt b hb).2)⟩
def E3 (B g t : Nat) (go : Option Nat) (A : Option Addr) (c : Nat) (es : List Sl) (s : NtS) (g2 t2 : Nat) (go2 : Option Nat) (A2 : Option Addr) (c2 : Nat) (es2 : List Sl) (s2 : NtS) (S : Nat → Prop) (w : World) : Prop :=
  (NtIn B w g t go A c es s ∧ NtIn B w g2 t2 go2 A2 c2 es2 s2) ∧ (∀ b, NtT g t go (wayB A) b → ¬ S b) ∧ ∀ b, NtT g2 t2 go2 (wayB A2) b → ¬ S b
theorem E3.step {B g t : Nat} {go : Option Nat} {A : Option Addr} {c : Nat} {es : List Sl} {s : NtS} {g2 t2 : Nat} {go2 : Option Nat} {A2 : Option Addr} {c2 : Nat} {es2 : List Sl} {s2 : NtS} {S S' : Nat → Prop} {w w' : World} (hG : NtGo w w' S S') (hn : ∀ b, S b → NoB w b) (h : E3 B g t go A c es s g2 t2 go2 A2 c2 es2 s2 S w) : E3 B g t go A c es s g2 t2 go2 A2 c2 es2 s2 S' w' :=
  ⟨⟨h.1.1.keep hG.k h.2.1 hn, h.1.2.keep hG.k h.2.2 hn⟩, ap_step h.2.1 hG (fun b hb => (h.1.1.lt b hb).2), ap_step h.2.2 hG (fun b hb => (h.1.2.lt b hb).2)⟩
theorem own_ntT {g t : Nat} {go k : Option Nat} {b : Nat} (h : Own t go b) : NtT g t go k b := by
  rcases h with q | q
  · exact .inr (.inl q)
  · exact .inr (.inr (.inl q))
set_option maxRecDepth 100000 in
set_option maxHeartbeats 16000000 in
theorem law_copies (A : Option Addr) (n c : Nat) (Os : List OpA) (A' : Option Addr) (n' c' : Nat) (Ms : List OpA) (w : World) (h : RdS w w.heap.size 4 A n c (rowsV oC Os)) (ho : ∀ o ∈ Os, OpOk w.heap.size w o) (h' : RdS w w.heap.size 4 A' n' c' (rowsV oC Ms)) (ho' : ∀ o ∈ Ms, OpOk w.heap.size w o) :
    Calls Try.prog 7 #[.slice A n c, .slice A' n' c'] w fun e w' => e = .returned (.bool true) ∧ Below w.heap.size w w' := by
  have HR := Lib.hid h
  have HOs := Lib.hid ho
  have Hl : RowKit.Hid (Os.length = n) := Lib.hid (h.rlen oC_len (by decide))
  have HR' := Lib.hid h'
  have HOs' := Lib.hid ho'
  have Hl' : RowKit.Hid (Ms.length = n') := Lib.hid (h'.rlen oC_len (by decide))
  clear h ho h' ho'
  go_enter Try.func7, Try.ntmps7
  go_wp2_with fail
  refine (shown21 w).mono ?_
  rintro e w1 ⟨rfl, hb1⟩
  have HB1 := Lib.hid hb1
  clear hb1
  go_wp2_with fail
  refine (nt_new w1).mono ?_
  rintro e w2 ⟨g1, t1, rfl, hW, hT, hg, ht, -, hb⟩
  have HN2 := Lib.hid ((NtIn.new hW hT hg ht).lo_ HB1.out.size)
  have HB2 := Lib.hid (bel_bl HB1.out hb)
  clear hW hT hg ht hb HB1
  go_wp2_with fail
  refine (nt_new w2).mono ?_
  rintro e w3 ⟨g2, t2, rfl, hW, hT, hg, ht, -, hb⟩
  have HM3 := Lib.hid (NtIn.new hW hT hg ht)
  have HN3 := Lib.hid (HN2.out.below hb)
  have HB3 := Lib.hid (bel_bl HB2.out hb)
  have HL2 : RowKit.Hid (∀ b, NtT g1 t1 none none b → b < w2.heap.size) := Lib.hid (fun b hb => (HN2.out.lt b hb).2)
  have HW2 : RowKit.Hid (w.heap.size ≤ w2.heap.size ∧ w2.heap.size ≤ w3.heap.size) := Lib.hid ⟨HB2.out.size, hb.size⟩
  clear hW hT hg ht hb HB2 HN2
  have HY4 : RowKit.Hid (Whole (w3.alloc (.cells #[.slice none 0 0, .int .i64 0, .int .i64 0, .int .i64 0, .int .i64 0, .int .i64 0, .int .i64 0] 30)) w3.heap.size 30 (ytC none 0 0 [0, 0, 0, 0, 0, 0])) := Lib.hid (Whole.new_ w3 30 [_, _, _, _, _, _, _])
  have hb4 := below1 w3 (.cells #[.slice none 0 0, .int .i64 0, .int .i64 0, .int .i64 0, .int .i64 0, .int .i64 0, .int .i64 0] 30)
  have HN4 := Lib.hid (HN3.out.below hb4)
  have HM4 := Lib.hid (HM3.out.below hb4)
  have HB4 := Lib.hid (bel_bl HB3.out hb4)
  have HL3 : RowKit.Hid (∀ b, NtT g2 t2 none none b → w2.heap.size ≤ b ∧ b < w3.heap.size) := Lib.hid (fun b hb => HM3.out.lt b hb)
  go_upto_region 7 with fail
  obtain ⟨w4, gw4⟩ : ∃ z, w3.alloc (.cells #[.slice none 0 0, .int .i64 0, .int .i64 0, .int .i64 0, .int .i64 0, .int .i64 0, .int .i64 0] 30) = z := ⟨_, rfl⟩
  obtain ⟨y, gy⟩ : ∃ z, w3.heap.size = z := ⟨_, rfl⟩
  rw [gw4] at HY4 HN4 HM4 HB4 ⊢
  rw [gy] at HY4 HL3 HW2 ⊢
  clear gw4 gy HN3 HM3 HB3 hb4
  go_upto_region 8 with fail
  go_loopw [9] (fun v_ wr => ∃ j : Nat, j ≤ n ∧ j ≤ 40 ∧ v_ = .int .i64 (j : Int) ∧ RowKit.Hid (PlE (E1 w.heap.size g2 t2) 0 w y g1 t1 zeroN Os j wr)) (fun v_ _ => 40 - (intOf v_).toNat)
  case atStart => exact ⟨0, Nat.zero_le _, Nat.zero_le _, rfl, Lib.hid (by exact ⟨none, none, 0, [], none, 0, [], ⟨HN4.out, YtIn.new HY4.out (by have := HW2.out; omega), fun i hi q => by
      rcases q with q | q
      · have := HL2.out i hi; have := HW2.out; omega
      · cases q⟩, ⟨HM4.out.lo_ HW2.out.1, fun i hi q => by
      rcases q with q | q | q
      · have := HL2.out i q; have := HL3.out i hi; omega
      · have := HL3.out i hi; omega
      · cases q⟩, zeroN_ok, (show ∀ x ∈ zeroN.2, x ≤ 0 + 6 * ((0 : Nat) : Int) from by decide), HB4.out⟩)⟩
  case round =>
    clear HN4 HM4 HB4 HY4 HL2 HL3
    obtain ⟨j, hj, hj8, rfl, hin⟩ := hrel
    by_cases hlt : j < n ∧ j < 40
    · obtain ⟨hl1, hl2⟩ := hlt
      have hi1 : (j : Int) < (n : Int) := by omega
      have hi2 : (j : Int) < 40 := by omega
      obtain ⟨x, hx⟩ : ∃ x, Os[j]? = some x := ⟨_, List.getElem?_eq_getElem (by have := Hl.out; omega)⟩
      have HOx := Lib.hid (HOs.out x (List.mem_of_getElem? hx))
      have hTk : Os.take (j + 1) = Os.take j ++ [x] := take_snoc_ _ _ _ hx
      obtain ⟨b, off, rfl, hbB, hpl⟩ := HR.out.place oC_len (by decide) (by omega)
      have HP := Lib.hid (hpl j x hx)
      obtain ⟨go_, A_, c_, es_, A__, c__, es__, hTw, hE, hs, hsm, hb⟩ := hin.out
      have HD := Lib.hid (does_any wr hTw hs x (HOx.out.below hb) (fun x hx => by have := hsm x hx; omega))
      have HPw : RowKit.Hid (∀ j' v, (oC x)[j']? = some v → wr.cell? ((⟨b, off + j * 4, none⟩ : Addr).add j') = some v) := Lib.hid (fun j' v hv => (hb.cell (p := (⟨b, off + j * 4, none⟩ : Addr).add j') (by rw [add_block]; exact hbB)).trans (HP.out j' v hv))
      have Hs := Lib.hid hs
      have Hsm := Lib.hid hsm
      have HTw := Lib.hid hTw
      have HB := Lib.hid hb
      have HE := Lib.hid hE
      have HTk : RowKit.Hid (runN zeroN (Os.take (j + 1)) = opN (runN zeroN (Os.take j)) x) := Lib.hid (by rw [hTk]; exact runN_app _ _ _)
      clear hs hsm hTw hb hE hin hx hpl hbB hTk HP
      go_upto_region 10 with fail
      refine wp_region_lit ?_
      refine wl_read (v := ?_) (some 41) rfl (by rfl) ?_ ?_
      rotate_left
      · go_simp; (try with_reducible rfl)
      simp only [Act.put, List.setIfInBounds_toArray, List.set_cons_zero, List.set_cons_succ]
      refine wl_read (v := ?_) (some 42) rfl (by rfl) ?_ ?_
      rotate_left
      · go_simp; (try with_reducible rfl)
      simp only [Act.put, List.setIfInBounds_toArray, List.set_cons_zero, List.set_cons_succ]
      refine wl_read (v := ?_) (some 43) rfl (by rfl) ?_ ?_
      rotate_left
      · go_simp; (try with_reducible rfl)
      simp only [Act.put, List.setIfInBounds_toArray, List.set_cons_zero, List.set_cons_succ]
      refine wl_read (v := ?_) (some 44) rfl (by rfl) ?_ ?_
      rotate_left
      · go_simp; (try with_reducible rfl)
      simp only [Act.put, List.setIfInBounds_toArray, List.set_cons_zero, List.set_cons_succ]
      refine wl_read (v := ?_) (some 45) rfl (by rfl) ?_ ?_
      rotate_left
      · go_simp; (try with_reducible rfl)
      simp only [Act.put, List.setIfInBounds_toArray, List.set_cons_zero, List.set_cons_succ]
      refine wl_load_at (some 46) rfl (by rfl) 40 (.tmp 45) rfl ⟨b, off + j * 4, none⟩ rfl (oC x) _ HPw.out Try.underlying40 rfl (by kernel_rfl) ?_
      simp only [Act.put, List.setIfInBounds_toArray, List.set_cons_zero, List.set_cons_succ]
      go_wp2_with fail
      refine HD.out.mono ?_
      rintro e w5 ⟨rfl, go3, A3, c3, es3, A4, c4, es4, hT5, hG5⟩
      have HE5 := Lib.hid (E1.step hG5 HTw.out.nob HE.out)
      have HT5 := Lib.hid hT5
      have HB5 := Lib.hid (HB.out.trans (hG5.k.below HB.out.size (fun i hi e => by have := (HTw.out.lt i e).1; omega)))
      have Hok5 := Lib.hid (opN_ok Hs.out (OpOk.bytes HOx.out))
      have Hsm5 := Lib.hid (opN_small (o := x) Hsm.out (by omega))
      clear hT5 hG5 HD HTw HB Hs Hsm HPw HOx HE
      rw [← HTk.out] at HT5 Hok5 Hsm5
      clear HTk
      go_wp2
      go_roundw
      case rel =>
        refine ⟨j + 1, by omega, by omega, by go_num, Lib.hid ⟨go3, A3, c3, es3, A4, c4, es4, HT5.out, HE5.out, Hok5.out, fun x hx => by have := Hsm5.out x hx; omega, HB5.out⟩⟩
      case measure => simp [intOf]; omega
    · have h9 : ¬ ((j : Int) < (n : Int) ∧ (j : Int) < 40) := fun q => hlt ⟨by omega, by omega⟩
      have hJ : Os.take j = Os.take 40 := by
        rcases Nat.lt_or_ge j n with q | q
        · rw [show j = 40 by omega]
        · rw [List.take_of_length_le (by rw [Hl.out]; omega), List.take_of_length_le (by rw [Hl.out]; omega)]
      have hin' := hin.out
      unfold PlE at hin'
      rw [hJ] at hin'
      have HIN := Lib.hid hin'
      clear hin' hJ hin
      go_upto_region 8 with fail
      go_cut [38] (fun v z => v = .bool false ∧ z = wr)
      case first =>
        by_cases hkn2 : (j : Int) < (n : Int)
        · have hk6b : decide ((j : Int) < 40) = false := decide_eq_false (fun q => h9 ⟨hkn2, q⟩)
          clear h9 hlt
          go_wp2_with fail
          go_meet
          exact ⟨rfl, rfl⟩
        · have hk6b : decide ((j : Int) < (n : Int)) = false := decide_eq_false hkn2
          clear h9 hlt
          go_wp2_with fail
          go_meet
          exact ⟨rfl, rfl⟩
      case rest =>
        obtain ⟨rfl, hz⟩ := hcut
        replace hz := hz.symm
        subst hz
        clear h9 hlt
        obtain ⟨go_, A_, c_, es_, A__, c__, es__, hTw, hE, hs, hsm, hb⟩ := HIN.out
        clear HIN hj
        obtain ⟨hE1, hE2⟩ := hE
        obtain ⟨ga0, Aa, ca, ea, hga⟩ : ∃ a b c d, a = go_ ∧ b = A_ ∧ c = c_ ∧ d = es_ := ⟨_, _, _, _, rfl, rfl, rfl, rfl⟩
        obtain ⟨rfl, rfl, rfl, rfl⟩ := hga
        obtain ⟨Ay, cy, ey, hgy⟩ : ∃ a b c, a = A__ ∧ b = c__ ∧ c = es__ := ⟨_, _, _, rfl, rfl, rfl⟩
        obtain ⟨rfl, rfl, rfl⟩ := hgy
        have hb6 := below1 wr (.cells #[.slice none 0 0, .int .i64 0, .int .i64 0, .int .i64 0, .int .i64 0, .int .i64 0, .int .i64 0] 30)
        have HY6 : RowKit.Hid (Whole (wr.alloc (.cells #[.slice none 0 0, .int .i64 0, .int .i64 0, .int .i64 0, .int .i64 0, .int .i64 0, .int .i64 0] 30)) wr.heap.size 30 (ytC none 0 0 [0, 0, 0, 0, 0, 0])) := Lib.hid (Whole.new_ wr 30 [_, _, _, _, _, _, _])
        have hT6 : TwIn w.heap.size (wr.alloc (.cells #[.slice none 0 0, .int .i64 0, .int .i64 0, .int .i64 0, .int .i64 0, .int .i64 0, .int .i64 0] 30)) g2 t2 none none 0 [] wr.heap.size none 0 [] zeroN zeroN := ⟨hE1.below hb6, YtIn.new HY6.out hb.size, fun i hi q => by
          rcases q with q | q
          · have := (hE1.lt i hi).2; omega
          · cases q⟩
        have hE6 : E2 w.heap.size g1 t1 ga0 Aa ca ea y Ay cy ey (runN zeroN (Os.take 40)) (TwS g2 t2 none none wr.heap.size none) (wr.alloc (.cells #[.slice none 0 0, .int .i64 0, .int .i64 0, .int .i64 0, .int .i64 0, .int .i64 0, .int .i64 0] 30)) := ⟨hTw.below hb6, fun i hi q => by
          rcases q with q | q | q
          · exact hE2 i q hi
          · have := (hTw.lt i hi).2; omega
          · cases q⟩
        have HT6 := Lib.hid hT6
        have HE6 := Lib.hid hE6
        have HB6 := Lib.hid (bel_bl hb hb6)
        clear hTw hE1 hE2 hs hsm hb hb6 hT6 hE6
        go_upto_region 14 with fail
        obtain ⟨w6, gw6⟩ : ∃ z, wr.alloc (.cells #[.slice none 0 0, .int .i64 0, .int .i64 0, .int .i64 0, .int .i64 0, .int .i64 0, .int .i64 0] 30) = z := ⟨_, rfl⟩
        obtain ⟨zz, gzz⟩ : ∃ z, wr.heap.size = z := ⟨_, rfl⟩
        rw [gw6] at HT6 HE6 HB6 HY6 ⊢
        rw [gzz] at HT6 HE6 HY6 ⊢
        clear gw6 gzz
        go_upto_region 15 with fail
        go_loopw [12] (fun v_ wr => ∃ j : Nat, j ≤ n ∧ j ≤ 40 ∧ v_ = .int .i64 (j : Int) ∧ RowKit.Hid (PlE (E2 w.heap.size g1 t1 ga0 Aa ca ea y Ay cy ey (runN zeroN (Os.take 40))) 0 w zz g2 t2 zeroN Os j wr)) (fun v_ _ => 40 - (intOf v_).toNat)
        case atStart => exact ⟨0, Nat.zero_le _, Nat.zero_le _, rfl, Lib.hid (by exact ⟨none, none, 0, [], none, 0, [], HT6.out, HE6.out, zeroN_ok, (show ∀ x ∈ zeroN.2, x ≤ 0 + 6 * ((0 : Nat) : Int) from by decide), HB6.out⟩)⟩
        case round =>
          clear HT6 HE6 HB6 HY6
          obtain ⟨j, hj, hj8, rfl, hin⟩ := hrel
          by_cases hlt : j < n ∧ j < 40
          · obtain ⟨hl1, hl2⟩ := hlt
            have hi1 : (j : Int) < (n : Int) := by omega
            have hi2 : (j : Int) < 40 := by omega
            obtain ⟨x, hx⟩ : ∃ x, Os[j]? = some x := ⟨_, List.getElem?_eq_getElem (by have := Hl.out; omega)⟩
            have HOx := Lib.hid (HOs.out x (List.mem_of_getElem? hx))
            have hTk : Os.take (j + 1) = Os.take j ++ [x] := take_snoc_ _ _ _ hx
            obtain ⟨b, off, rfl, hbB, hpl⟩ := HR.out.place oC_len (by decide) (by omega)
            have HP := Lib.hid (hpl j x hx)
            obtain ⟨go_, A_, c_, es_, A__, c__, es__, hTw, hE, hs, hsm, hb⟩ := hin.out
            have HD := Lib.hid (does_any wr hTw hs x (HOx.out.below hb) (fun x hx => by have := hsm x hx; omega))
            have HPw : RowKit.Hid (∀ j' v, (oC x)[j']? = some v → wr.cell? ((⟨b, off + j * 4, none⟩ : Addr).add j') = some v) := Lib.hid (fun j' v hv => (hb.cell (p := (⟨b, off + j * 4, none⟩ : Addr).add j') (by rw [add_block]; exact hbB)).trans (HP.out j' v hv))
            have Hs := Lib.hid hs
            have Hsm := Lib.hid hsm
            have HTw := Lib.hid hTw
            have HB := Lib.hid hb
            have HE := Lib.hid hE
            have HTk : RowKit.Hid (runN zeroN (Os.take (j + 1)) = opN (runN zeroN (Os.take j)) x) := Lib.hid (by rw [hTk]; exact runN_app _ _ _)
            clear hs hsm hTw hb hE hin hx hpl hbB hTk HP
            go_upto_region 17 with fail
            refine wp_region_lit ?_
            refine wl_read (v := ?_) (some 62) rfl (by rfl) ?_ ?_
            rotate_left
            · go_simp; (try with_reducible rfl)
            simp only [Act.put, List.setIfInBounds_toArray, List.set_cons_zero, List.set_cons_succ]
            refine wl_read (v := ?_) (some 63) rfl (by rfl) ?_ ?_
            rotate_left
            · go_simp; (try with_reducible rfl)
            simp only [Act.put, List.setIfInBounds_toArray, List.set_cons_zero, List.set_cons_succ]
            refine wl_read (v := ?_) (some 64) rfl (by rfl) ?_ ?_
            rotate_left
            · go_simp; (try with_reducible rfl)
            simp only [Act.put, List.setIfInBounds_toArray, List.set_cons_zero, List.set_cons_succ]
            refine wl_read (v := ?_) (some 65) rfl (by rfl) ?_ ?_
            rotate_left
            · go_simp; (try with_reducible rfl)
            simp only [Act.put, List.setIfInBounds_toArray, List.set_cons_zero, List.set_cons_succ]
            refine wl_read (v := ?_) (some 66) rfl (by rfl) ?_ ?_
            rotate_left
            · go_simp; (try with_reducible rfl)
            simp only [Act.put, List.setIfInBounds_toArray, List.set_cons_zero, List.set_cons_succ]
            refine wl_load_at (some 67) rfl (by rfl) 40 (.tmp 66) rfl ⟨b, off + j * 4, none⟩ rfl (oC x) _ HPw.out Try.underlying40 rfl (by kernel_rfl) ?_
            simp only [Act.put, List.setIfInBounds_toArray, List.set_cons_zero, List.set_cons_succ]
            go_wp2_with fail
            refine HD.out.mono ?_
            rintro e w5 ⟨rfl, go3, A3, c3, es3, A4, c4, es4, hT5, hG5⟩
            have HE5 := Lib.hid (E2.step hG5 HTw.out.nob HE.out)
            have HT5 := Lib.hid hT5
            have HB5 := Lib.hid (HB.out.trans (hG5.k.below HB.out.size (fun i hi e => by have := (HTw.out.lt i e).1; omega)))
            have Hok5 := Lib.hid (opN_ok Hs.out (OpOk.bytes HOx.out))
            have Hsm5 := Lib.hid (opN_small (o := x) Hsm.out (by omega))
            clear hT5 hG5 HD HTw HB Hs Hsm HPw HOx HE
            rw [← HTk.out] at HT5 Hok5 Hsm5
            clear HTk
            go_wp2
            go_roundw
            case rel =>
              refine ⟨j + 1, by omega, by omega, by go_num, Lib.hid ⟨go3, A3, c3, es3, A4, c4, es4, HT5.out, HE5.out, Hok5.out, fun x hx => by have := Hsm5.out x hx; omega, HB5.out⟩⟩
            case measure => simp [intOf]; omega
          · have h9 : ¬ ((j : Int) < (n : Int) ∧ (j : Int) < 40) := fun q => hlt ⟨by omega, by omega⟩
            have hJ : Os.take j = Os.take 40 := by
              rcases Nat.lt_or_ge j n with q | q
              · rw [show j = 40 by omega]
              · rw [List.take_of_length_le (by rw [Hl.out]; omega), List.take_of_length_le (by rw [Hl.out]; omega)]
            have hin' := hin.out
            unfold PlE at hin'
            rw [hJ] at hin'
            have HIN := Lib.hid hin'
            clear hin' hJ hin
            go_upto_region 15 with fail
            go_cut [59] (fun v z => v = .bool false ∧ z = wr)
            case first =>
              by_cases hkn2 : (j : Int) < (n : Int)
              · have hk6b : decide ((j : Int) < 40) = false := decide_eq_false (fun q => h9 ⟨hkn2, q⟩)
                clear h9 hlt
                go_wp2_with fail
                go_meet
                exact ⟨rfl, rfl⟩
              · have hk6b : decide ((j : Int) < (n : Int)) = false := decide_eq_false hkn2
                clear h9 hlt
                go_wp2_with fail
                go_meet
                exact ⟨rfl, rfl⟩
            case rest =>
              obtain ⟨rfl, hz⟩ := hcut
              replace hz := hz.symm
              subst hz
              clear h9 hlt
              obtain ⟨go_, A_, c_, es_, A__, c__, es__, hTw, hE, hs, hsm, hb⟩ := HIN.out
              clear HIN hj
              obtain ⟨hE1, hE2⟩ := hE
              obtain ⟨S1, gS1⟩ : ∃ z, runN zeroN (Os.take 40) = z := ⟨_, rfl⟩
              rw [gS1] at hTw hE1 hs hsm
              have HC := Lib.hid (nt_clone wr hE1.nt hs)
              have HTy := Lib.hid hE1
              have HTz := Lib.hid hTw
              have HAp := Lib.hid hE2
              have HB := Lib.hid hb
              have HK5 := Lib.hid hs
              have HS6 := Lib.hid hs.six
              have Hsm5 : RowKit.Hid (∀ x ∈ S1.2, x ≤ 240) := Lib.hid (fun x hx => by have := hsm x hx; omega)
              clear hTw hE1 hE2 hs hsm hb gS1
              go_wp2_with fail
              refine HC.out.mono ?_
              rintro e w6 ⟨g3, t3, gc, Ac, cc, ga, rfl, hN2, hN1, hG, hap⟩
              obtain ⟨hc1, hc2, hc3⟩ := HTy.out.cloned HB.out.size hN2 hN1 hG hap
              obtain ⟨gb, Ab, cb, eb, gAb⟩ : ∃ a b c d, a = go_ ∧ b = A_ ∧ c = c_ ∧ d = es_ := ⟨_, _, _, _, rfl, rfl, rfl, rfl⟩
              obtain ⟨rfl, rfl, rfl, rfl⟩ := gAb
              have hbk := HTz.out.nt.keep hG.k (fun i hi q => HAp.out i (.inl q) (.inl hi)) HTy.out.nt.nob
              have Hab : RowKit.Hid (∀ i, NtT g1 t1 ga (wayB Aa) i → ¬ NtT g2 t2 gb (wayB Ab) i) := Lib.hid (fun i hi q => by
                rcases hG.n i hi with q2 | q2
                · exact HAp.out i (.inl q2) (.inl q)
                · have := (HTz.out.nt.lt i q).2; omega)
              have HT5 := Lib.hid hc1
              have HE5 : RowKit.Hid (E3 w.heap.size g1 t1 ga Aa ca ea S1 g2 t2 gb Ab cb eb S1 (TwS g3 t3 gc Ac y Ay) w6) := Lib.hid ⟨⟨hc2.nt, hbk⟩, fun i hi q => hc3 i q hi, fun i hi q => by
                rcases q with q | q
                · have h1 := (hN2.lt i q).1; have h2 := (HTz.out.nt.lt i hi).2; omega
                · exact HAp.out i (.inr q) (.inl hi)⟩
              have HB5 := Lib.hid (HB.out.trans (HTy.out.nt.far hG HB.out.size))
              clear hN2 hN1 hG hap hc1 hc2 hc3 hbk HC HTy HTz HAp HB
              go_upto_region 22 with fail
              go_loopw [14] (fun v_ wr => ∃ j : Nat, j ≤ n' ∧ j ≤ 40 ∧ v_ = .int .i64 (j : Int) ∧ RowKit.Hid (PlE (E3 w.heap.size g1 t1 ga Aa ca ea S1 g2 t2 gb Ab cb eb S1) 240 w y g3 t3 S1 Ms j wr)) (fun v_ _ => 40 - (intOf v_).toNat)
              case atStart => exact ⟨0, Nat.zero_le _, Nat.zero_le _, rfl, Lib.hid (by exact ⟨gc, Ac, cc, ea, Ay, cy, ey, HT5.out, HE5.out, HK5.out, fun x hx => by have := Hsm5.out x hx; omega, HB5.out⟩)⟩
              case round =>
                clear HT5 HE5 HK5 Hsm5 HB5
                obtain ⟨j, hj, hj8, rfl, hin⟩ := hrel
                by_cases hlt : j < n' ∧ j < 40
                · obtain ⟨hl1, hl2⟩ := hlt
                  have hi1 : (j : Int) < (n' : Int) := by omega
                  have hi2 : (j : Int) < 40 := by omega
                  obtain ⟨x, hx⟩ : ∃ x, Ms[j]? = some x := ⟨_, List.getElem?_eq_getElem (by have := Hl'.out; omega)⟩
                  have HOx := Lib.hid (HOs'.out x (List.mem_of_getElem? hx))
                  have hTk : Ms.take (j + 1) = Ms.take j ++ [x] := take_snoc_ _ _ _ hx
                  obtain ⟨b, off, rfl, hbB, hpl⟩ := HR'.out.place oC_len (by decide) (by omega)
                  have HP := Lib.hid (hpl j x hx)
                  obtain ⟨go_, A_, c_, es_, A__, c__, es__, hTw, hE, hs, hsm, hb⟩ := hin.out
                  have HD := Lib.hid (does_any wr hTw hs x (HOx.out.below hb) (fun x hx => by have := hsm x hx; omega))
                  have HPw : RowKit.Hid (∀ j' v, (oC x)[j']? = some v → wr.cell? ((⟨b, off + j * 4, none⟩ : Addr).add j') = some v) := Lib.hid (fun j' v hv => (hb.cell (p := (⟨b, off + j * 4, none⟩ : Addr).add j') (by rw [add_block]; exact hbB)).trans (HP.out j' v hv))
                  have Hs := Lib.hid hs
                  have Hsm := Lib.hid hsm
                  have HTw := Lib.hid hTw
                  have HB := Lib.hid hb
                  have HE := Lib.hid hE
                  have HTk : RowKit.Hid (runN S1 (Ms.take (j + 1)) = opN (runN S1 (Ms.take j)) x) := Lib.hid (by rw [hTk]; exact runN_app _ _ _)
                  clear hs hsm hTw hb hE hin hx hpl hbB hTk HP
                  go_upto_region 24 with fail
                  refine wp_region_lit ?_
                  refine wl_read (v := ?_) (some 83) rfl (by rfl) ?_ ?_
                  rotate_left
                  · go_simp; (try with_reducible rfl)
                  simp only [Act.put, List.setIfInBounds_toArray, List.set_cons_zero, List.set_cons_succ]
                  refine wl_read (v := ?_) (some 84) rfl (by rfl) ?_ ?_
                  rotate_left
                  · go_simp; (try with_reducible rfl)
                  simp only [Act.put, List.setIfInBounds_toArray, List.set_cons_zero, List.set_cons_succ]
                  refine wl_read (v := ?_) (some 85) rfl (by rfl) ?_ ?_
                  rotate_left
                  · go_simp; (try with_reducible rfl)
                  simp only [Act.put, List.setIfInBounds_toArray, List.set_cons_zero, List.set_cons_succ]
                  refine wl_read (v := ?_) (some 86) rfl (by rfl) ?_ ?_
                  rotate_left
                  · go_simp; (try with_reducible rfl)
                  simp only [Act.put, List.setIfInBounds_toArray, List.set_cons_zero, List.set_cons_succ]
                  refine wl_read (v := ?_) (some 87) rfl (by rfl) ?_ ?_
                  rotate_left
                  · go_simp; (try with_reducible rfl)
                  simp only [Act.put, List.setIfInBounds_toArray, List.set_cons_zero, List.set_cons_succ]
                  refine wl_load_at (some 88) rfl (by rfl) 40 (.tmp 87) rfl ⟨b, off + j * 4, none⟩ rfl (oC x) _ HPw.out Try.underlying40 rfl (by kernel_rfl) ?_
                  simp only [Act.put, List.setIfInBounds_toArray, List.set_cons_zero, List.set_cons_succ]
                  go_wp2_with fail
                  refine HD.out.mono ?_
                  rintro e w5 ⟨rfl, go3, A3, c3, es3, A4, c4, es4, hT5, hG5⟩
                  have HE5 := Lib.hid (E3.step hG5 HTw.out.nob HE.out)
                  have HT5 := Lib.hid hT5
                  have HB5 := Lib.hid (HB.out.trans (hG5.k.below HB.out.size (fun i hi e => by have := (HTw.out.lt i e).1; omega)))
                  have Hok5 := Lib.hid (opN_ok Hs.out (OpOk.bytes HOx.out))
                  have Hsm5 := Lib.hid (opN_small (o := x) Hsm.out (by omega))
                  clear hT5 hG5 HD HTw HB Hs Hsm HPw HOx HE
                  rw [← HTk.out] at HT5 Hok5 Hsm5
                  clear HTk
                  go_wp2
                  go_roundw
                  case rel =>
                    refine ⟨j + 1, by omega, by omega, by go_num, Lib.hid ⟨go3, A3, c3, es3, A4, c4, es4, HT5.out, HE5.out, Hok5.out, fun x hx => by have := Hsm5.out x hx; omega, HB5.out⟩⟩
                  case measure => simp [intOf]; omega
                · have h9 : ¬ ((j : Int) < (n' : Int) ∧ (j : Int) < 40) := fun q => hlt ⟨by omega, by omega⟩
                  have hJ : Ms.take j = Ms.take 40 := by
                    rcases Nat.lt_or_ge j n' with q | q
                    · rw [show j = 40 by omega]
                    · rw [List.take_of_length_le (by rw [Hl'.out]; omega), List.take_of_length_le (by rw [Hl'.out]; omega)]
                  have hin' := hin.out
                  unfold PlE at hin'
                  rw [hJ] at hin'
                  have HIN := Lib.hid hin'
                  clear hin' hJ hin
                  go_upto_region 22 with fail
                  go_cut [80] (fun v z => v = .bool false ∧ z = wr)
                  case first =>
                    by_cases hkn2 : (j : Int) < (n' : Int)
                    · have hk6b : decide ((j : Int) < 40) = false := decide_eq_false (fun q => h9 ⟨hkn2, q⟩)
                      clear h9 hlt
                      go_wp2_with fail
                      go_meet
                      exact ⟨rfl, rfl⟩
                    · have hk6b : decide ((j : Int) < (n' : Int)) = false := decide_eq_false hkn2
                      clear h9 hlt
                      go_wp2_with fail
                      go_meet
                      exact ⟨rfl, rfl⟩
                  case rest =>
                    obtain ⟨rfl, hz⟩ := hcut
                    replace hz := hz.symm
                    subst hz
                    clear h9 hlt
                    obtain ⟨go_, A_, c_, es_, A__, c__, es__, hTw, hE, hs, hsm, hb⟩ := HIN.out
                    clear HIN hj
                    obtain ⟨⟨hEa, hEb⟩, hAa, hAb⟩ := hE
                    obtain ⟨S2, gS2⟩ : ∃ z, runN S1 (Ms.take 40) = z := ⟨_, rfl⟩
                    rw [gS2] at hTw
                    have hoa : ∀ i, Own t1 ga i ∨ Own t2 gb i → NtT g1 t1 ga (wayB Aa) i ∨ NtT g2 t2 gb (wayB Ab) i := fun i q => q.elim (fun q => .inl (own_ntT q)) (fun q => .inr (own_ntT q))
                    have hna : ¬ (Own t1 ga g1 ∨ Own t2 gb g1) := fun q => q.elim (fun q => hEa.tal.own hEa.box (by decide) (by decide) q) (fun q => Hab.out g1 (.inl rfl) (own_ntT q))
                    have hnb : ¬ (Own t1 ga g2 ∨ Own t2 gb g2) := fun q => q.elim (fun q => Hab.out g2 (own_ntT q) (.inl rfl)) (fun q => hEb.tal.own hEb.box (by decide) (by decide) q)
                    have hnc : ¬ (Own t1 ga g3 ∨ Own t2 gb g3) := fun q => (hoa _ q).elim (fun q => hAa _ q (.inl (.inl rfl))) (fun q => hAb _ q (.inl (.inl rfl)))
                    have hny : ¬ (Own t1 ga y ∨ Own t2 gb y) := fun q => (hoa _ q).elim (fun q => hAa _ q (.inr (.inl rfl))) (fun q => hAb _ q (.inr (.inl rfl)))
                    have HLa : RowKit.Hid (∀ w', Kept (fun i => Own t1 ga i ∨ Own t2 gb i) wr.drew w' → Calls Try.prog 14 #[.pointer (some ⟨g1, 0, none⟩)] w' fun e w'' => e = .returned (.int .i64 (S1.1.length : Int)) ∧ Below w'.heap.size w' w'') := Lib.hid (fun w' hk => (nt_len g1 Aa S1.1.length ca t1 w' (hk.whole hEa.box.drew hna)).mono fun e w'' ⟨h1, h2⟩ => ⟨h1, h2 ▸ Below.refl _ _⟩)
                    have HLb : RowKit.Hid (∀ w', Kept (fun i => Own t1 ga i ∨ Own t2 gb i) wr.drew w' → Calls Try.prog 14 #[.pointer (some ⟨g2, 0, none⟩)] w' fun e w'' => e = .returned (.int .i64 (S1.1.length : Int)) ∧ Below w'.heap.size w' w'') := Lib.hid (fun w' hk => (nt_len g2 Ab S1.1.length cb t2 w' (hk.whole hEb.box.drew hnb)).mono fun e w'' ⟨h1, h2⟩ => ⟨h1, h2 ▸ Below.refl _ _⟩)
                    have HLc : RowKit.Hid (∀ w', Kept (fun i => Own t1 ga i ∨ Own t2 gb i) wr.drew w' → Calls Try.prog 14 #[.pointer (some ⟨g3, 0, none⟩)] w' fun e w'' => e = .returned (.int .i64 (S2.1.length : Int)) ∧ Below w'.heap.size w' w'') := Lib.hid (fun w' hk => (nt_len g3 A_ S2.1.length c_ t3 w' (hk.whole hTw.nt.box.drew hnc)).mono fun e w'' ⟨h1, h2⟩ => ⟨h1, h2 ▸ Below.refl _ _⟩)
                    have ld0 : ∀ w', Kept (fun i => Own t1 ga i ∨ Own t2 gb i) wr.drew w' → w'.cell? ⟨y, 0, none⟩ = some (.slice A__ S2.1.length c__) := fun w' hk => hk.cell (hTw.yt.box.drew.cell (i := 0) rfl) hny
                    have HLO : RowKit.Hid (∀ i, Own t1 ga i ∨ Own t2 gb i → w.heap.size ≤ i) := Lib.hid (fun i q => (hoa i q).elim (fun q => (hEa.lt i q).1) (fun q => (hEb.lt i q).1))
                    have HEa := Lib.hid (hEa.below ((Below.refl wr.heap.size wr).drew))
                    have HEb := Lib.hid (hEb.below ((Below.refl wr.heap.size wr).drew))
                    have HBw : RowKit.Hid (Below w.heap.size w wr.drew) := Lib.hid hb.drew
                    obtain ⟨N1, gN1⟩ : ∃ z, S1.1.length = z := ⟨_, rfl⟩
                    rw [gN1] at HLa HLb
                    have GN1 := Lib.hid gN1
                    clear hEa hEb hAa hAb hTw hs hsm hb hoa hna hnb hnc hny gS2 gN1
                    go_upto_region 27 with fail
                    refine wp_region_reg (fun i => Own t1 ga i ∨ Own t2 gb i) (by kernel_rfl) ?_
                    apply wpR_next 0 (some 92)
                    · simp only [List.getElem?_toArray, List.getElem?_cons_succ, List.getElem?_cons_zero]; exact rfl
                    · rfl
                    · kernel_rfl
                    · kernel_rfl
                    · kernel_rfl
                    · exact fun _ _ _ _ h => h
                    apply Exists.intro
                    apply And.intro
                    · apply yr_run; rfl; intro w' hw'; go_simp; (try with_reducible rfl)
                    simp only [Act.put, List.setIfInBounds_toArray, List.set_cons_zero, List.set_cons_succ]
                    apply wpR_next 1 (some 93)
                    · simp only [List.getElem?_toArray, List.getElem?_cons_succ, List.getElem?_cons_zero]; exact rfl
                    · rfl
                    · kernel_rfl
                    · kernel_rfl
                    · kernel_rfl
                    · exact fun _ _ _ _ h => h
                    apply Exists.intro
                    apply And.intro
                    · apply yr_call; rfl; rotate_left; intro w' hw'; exact HLa.out w' hw'; intro w'; go_simp
                    simp only [Act.put, List.setIfInBounds_toArray, List.set_cons_zero, List.set_cons_succ]
                    apply wpR_next 2 (some 94)
                    · simp only [List.getElem?_toArray, List.getElem?_cons_succ, List.getElem?_cons_zero]; exact rfl
                    · rfl
                    · kernel_rfl
                    · kernel_rfl
                    · kernel_rfl
                    · exact fun _ _ _ _ h => h
                    apply Exists.intro
                    apply And.intro
                    · apply yr_run; rfl; intro w' hw'; go_simp; (try with_reducible rfl)
                    simp only [Act.put, List.setIfInBounds_toArray, List.set_cons_zero, List.set_cons_succ]
                    apply wpR_next 3 (some 95)
                    · simp only [List.getElem?_toArray, List.getElem?_cons_succ, List.getElem?_cons_zero]; exact rfl
                    · rfl
                    · kernel_rfl
                    · kernel_rfl
                    · kernel_rfl
                    · exact fun _ _ _ _ h => h
                    apply Exists.intro
                    apply And.intro
                    · apply yr_call; rfl; rotate_left; intro w' hw'; exact HLb.out w' hw'; intro w'; go_simp
                    simp only [Act.put, List.setIfInBounds_toArray, List.set_cons_zero, List.set_cons_succ]
                    apply wpR_next 4 (some 96)
                    · simp only [List.getElem?_toArray, List.getElem?_cons_succ, List.getElem?_cons_zero]; exact rfl
                    · rfl
                    · kernel_rfl
                    · kernel_rfl
                    · kernel_rfl
                    · exact fun _ _ _ _ h => h
                    apply Exists.intro
                    apply And.intro
                    · apply yr_run; rfl; intro w' hw'; go_simp; (try with_reducible rfl)
                    simp only [Act.put, List.setIfInBounds_toArray, List.set_cons_zero, List.set_cons_succ]
                    apply wpR_next 5 (some 97)
                    · simp only [List.getElem?_toArray, List.getElem?_cons_succ, List.getElem?_cons_zero]; exact rfl
                    · rfl
                    · kernel_rfl
                    · kernel_rfl
                    · kernel_rfl
                    · exact fun _ _ _ _ h => h
                    apply Exists.intro
                    apply And.intro
                    · apply yr_run; rfl; intro w' hw'; go_simp; (try with_reducible rfl)
                    simp only [Act.put, List.setIfInBounds_toArray, List.set_cons_zero, List.set_cons_succ]
                    apply wpR_next 6 (some 98)
                    · simp only [List.getElem?_toArray, List.getElem?_cons_succ, List.getElem?_cons_zero]; exact rfl
                    · rfl
                    · kernel_rfl
                    · kernel_rfl
                    · kernel_rfl
                    · exact fun _ _ _ _ h => h
                    apply Exists.intro
                    apply And.intro
                    · apply yr_run; rfl; intro w' hw'; go_simp; (try with_reducible rfl)
                    simp only [Act.put, List.setIfInBounds_toArray, List.set_cons_zero, List.set_cons_succ]
                    apply wpR_next 8 (some 100)
                    · simp only [List.getElem?_toArray, List.getElem?_cons_succ, List.getElem?_cons_zero]; exact rfl
                    · rfl
                    · kernel_rfl
                    · kernel_rfl
                    · kernel_rfl
                    · exact fun _ _ _ _ h => h
                    apply Exists.intro
                    apply And.intro
                    · apply yr_run; rfl; intro w' hw'; go_simp; (try with_reducible rfl)
                    simp only [Act.put, List.setIfInBounds_toArray, List.set_cons_zero, List.set_cons_succ]
                    apply wpR_call 7 (some 99)
                    · simp only [List.getElem?_toArray, List.getElem?_cons_succ, List.getElem?_cons_zero]; exact rfl
                    · rfl
                    · kernel_rfl
                    · rfl
                    · intro w'; go_simp; first | done | exact ⟨rfl, rfl⟩ | with_reducible rfl
                    intro w' hw'
                    refine (nt_tally g1 Aa S1.1.length ca t1 ga S1.2 w' (HEa.out.below hw').box (HEa.out.below hw').tal).mono ?_
                    rintro e w'' ⟨h1, rfl, hh1, hWh1, g9, hT9, hS9⟩
                    refine ⟨_, rfl, hS9.k.wider (fun i _ q => .inl q), ?_⟩
                    have HEb2 := Lib.hid ((HEb.out.below hw').keep hS9.k (fun i hi q => Hab.out i (own_ntT q) hi) (tl_nob (HEa.out.below hw').tal))
                    have HW1 := Lib.hid hWh1
                    have HBv := Lib.hid ((bel_bl HBw.out hw').trans (hS9.k.below (Nat.le_trans HBw.out.size hw'.size) (fun i hi q => by have := HLO.out i (.inl q); omega)))
                    rw [HS6.out]
                    have hkk : Kept (fun i => Own t1 ga i ∨ Own t2 gb i) wr.drew w'' := (Kept.of_ext hw').trans (hS9.k.wider (fun i _ q => .inl q))
                    have HLc1 := Lib.hid (fun (w3 : World) (h : Kept (fun i => Own t1 ga i ∨ Own t2 gb i) w'' w3) => HLc.out w3 (hkk.trans h))
                    have ld01 := fun (w3 : World) (h : Kept (fun i => Own t1 ga i ∨ Own t2 gb i) w'' w3) => ld0 w3 (hkk.trans h)
                    clear hkk HLc ld0
                    clear hw' hh1 hWh1 hT9 hS9
                    obtain ⟨V1, gV1⟩ : ∃ z, w'' = z := ⟨_, rfl⟩
                    rw [gV1] at HEb2 HW1 HBv HLc1 ld01 ⊢
                    clear gV1
                    simp only [Act.put, List.setIfInBounds_toArray, List.set_cons_zero, List.set_cons_succ]
                    apply wpR_call 9 (some 101)
                    · simp only [List.getElem?_toArray, List.getElem?_cons_succ, List.getElem?_cons_zero]; exact rfl
                    · rfl
                    · kernel_rfl
                    · rfl
                    · intro w'; go_simp; first | done | exact ⟨rfl, rfl⟩ | with_reducible rfl
                    intro w' hw'
                    refine (nt_tally g2 Ab S1.1.length cb t2 gb S1.2 w' (HEb2.out.below hw').box (HEb2.out.below hw').tal).mono ?_
                    rintro e w'' ⟨h2, rfl, hh2, hWh2, g9, hT9, hS9⟩
                    refine ⟨_, rfl, hS9.k.wider (fun i _ q => .inr q), ?_⟩
                    have HRa := Lib.hid (show RdS w'' w''.heap.size 1 (some ⟨h1, 0, none⟩) 6 6 (rowsV intC S1.2) from rows_ints S1.2 ▸ RdS.of_whole (hS9.k.whole (HW1.out.below hw') (fun q => (HEb2.out.below hw').tal.own (HW1.out.below hw') (by decide) (by decide) q)) (by simp [ints, HS6.out]))
                    have HRb := Lib.hid (show RdS w'' w''.heap.size 1 (some ⟨h2, 0, none⟩) 6 6 (rowsV intC S1.2) from rows_ints S1.2 ▸ RdS.of_whole hWh2 (by simp [ints, HS6.out]))
                    have HBx := Lib.hid ((bel_bl HBv.out hw').trans (hS9.k.below (Nat.le_trans HBv.out.size hw'.size) (fun i hi q => by have := HLO.out i (.inr q); omega)))
                    rw [HS6.out]
                    have hkk : Kept (fun i => Own t1 ga i ∨ Own t2 gb i) V1 w'' := (Kept.of_ext hw').trans (hS9.k.wider (fun i _ q => .inr q))
                    have HLc2 := Lib.hid (fun (w3 : World) (h : Kept (fun i => Own t1 ga i ∨ Own t2 gb i) w'' w3) => HLc1.out w3 (hkk.trans h))
                    have ld02 := fun (w3 : World) (h : Kept (fun i => Own t1 ga i ∨ Own t2 gb i) w'' w3) => ld01 w3 (hkk.trans h)
                    clear hkk HLc1 ld01
                    clear hw' hh2 hWh2 hT9 hS9 HEb2 HW1 HBv
                    obtain ⟨V2, gV2⟩ : ∃ z, w'' = z := ⟨_, rfl⟩
                    rw [gV2] at HRa HRb HBx HLc2 ld02 ⊢
                    clear gV2
                    simp only [Act.put, List.setIfInBounds_toArray, List.set_cons_zero, List.set_cons_succ]
                    apply wpR_call 10 (some 102)
                    · simp only [List.getElem?_toArray, List.getElem?_cons_succ, List.getElem?_cons_zero]; exact rfl
                    · rfl
                    · kernel_rfl
                    · rfl
                    · intro w'; go_simp; first | done | exact ⟨rfl, rfl⟩ | with_reducible rfl
                    intro w' hw'
                    refine (ints_eq (some ⟨h1, 0, none⟩) (some ⟨h2, 0, none⟩) 6 6 6 S1.2 w' (HRa.out.bl hw') (HRb.out.bl hw') (by decide)).mono ?_
                    rintro e w'' ⟨rfl, hb2⟩
                    refine ⟨_, rfl, Kept.of_below hb2, ?_⟩
                    have HBu := Lib.hid (bel_bl (bel_bl HBx.out hw') hb2)
                    have hkk : Kept (fun i => Own t1 ga i ∨ Own t2 gb i) V2 w'' := (Kept.of_ext hw').trans (Kept.of_below hb2)
                    have HLc3 := Lib.hid (fun (w3 : World) (h : Kept (fun i => Own t1 ga i ∨ Own t2 gb i) w'' w3) => HLc2.out w3 (hkk.trans h))
                    have ld03 := fun (w3 : World) (h : Kept (fun i => Own t1 ga i ∨ Own t2 gb i) w'' w3) => ld02 w3 (hkk.trans h)
                    clear hkk HLc2 ld02
                    clear hw' hb2 HRa HRb HBx
                    obtain ⟨V3, gV3⟩ : ∃ z, w'' = z := ⟨_, rfl⟩
                    rw [gV3] at HBu HLc3 ld03 ⊢
                    clear gV3
                    simp only [Act.put, List.setIfInBounds_toArray, List.set_cons_zero, List.set_cons_succ]
                    apply wpR_next 11 (some 103)
                    · simp only [List.getElem?_toArray, List.getElem?_cons_succ, List.getElem?_cons_zero]; exact rfl
                    · rfl
                    · kernel_rfl
                    · kernel_rfl
                    · kernel_rfl
                    · exact fun _ _ _ _ h => h
                    apply Exists.intro
                    apply And.intro
                    · apply yr_run; rfl; intro w' hw'; go_simp; (try with_reducible rfl)
                    simp only [Act.put, List.setIfInBounds_toArray, List.set_cons_zero, List.set_cons_succ]
                    apply wpR_next 12 (some 104)
                    · simp only [List.getElem?_toArray, List.getElem?_cons_succ, List.getElem?_cons_zero]; exact rfl
                    · rfl
                    · kernel_rfl
                    · kernel_rfl
                    · kernel_rfl
                    · exact fun _ _ _ _ h => h
                    apply Exists.intro
                    apply And.intro
                    · apply yr_run; rfl; intro w' hw'; go_simp; (try with_reducible rfl)
                    simp only [Act.put, List.setIfInBounds_toArray, List.set_cons_zero, List.set_cons_succ]
                    apply wpR_next 13 (some 105)
                    · simp only [List.getElem?_toArray, List.getElem?_cons_succ, List.getElem?_cons_zero]; exact rfl
                    · rfl
                    · kernel_rfl
                    · kernel_rfl
                    · kernel_rfl
                    · exact fun _ _ _ _ h => h
                    apply Exists.intro
                    apply And.intro
                    · apply yr_run; rfl; intro w' hw'; go_simp; (try with_reducible rfl)
                    simp only [Act.put, List.setIfInBounds_toArray, List.set_cons_zero, List.set_cons_succ]
                    apply wpR_next 14 (some 106)
                    · simp only [List.getElem?_toArray, List.getElem?_cons_succ, List.getElem?_cons_zero]; exact rfl
                    · rfl
                    · kernel_rfl
                    · kernel_rfl
                    · kernel_rfl
                    · exact fun _ _ _ _ h => h
                    apply Exists.intro
                    apply And.intro
                    · apply yr_call; rfl; rotate_left; intro w' hw'; exact HLc3.out w' hw'; intro w'; go_simp
                    simp only [Act.put, List.setIfInBounds_toArray, List.set_cons_zero, List.set_cons_succ]
                    apply wpR_next 15 (some 107)
                    · simp only [List.getElem?_toArray, List.getElem?_cons_succ, List.getElem?_cons_zero]; exact rfl
                    · rfl
                    · kernel_rfl
                    · kernel_rfl
                    · kernel_rfl
                    · exact fun _ _ _ _ h => h
                    apply Exists.intro
                    apply And.intro
                    · apply yr_run; rfl; intro w' hw'; go_simp; (try with_reducible rfl)
                    simp only [Act.put, List.setIfInBounds_toArray, List.set_cons_zero, List.set_cons_succ]
                    apply wpR_next 16 (some 108)
                    · simp only [List.getElem?_toArray, List.getElem?_cons_succ, List.getElem?_cons_zero]; exact rfl
                    · rfl
                    · kernel_rfl
                    · kernel_rfl
                    · kernel_rfl
                    · exact fun _ _ _ _ h => h
                    apply Exists.intro
                    apply And.intro
                    · apply yr_run; rfl; intro w' hw'; go_simp; (try with_reducible rfl)
                    simp only [Act.put, List.setIfInBounds_toArray, List.set_cons_zero, List.set_cons_succ]
                    apply wpR_next 17 (some 109)
                    · simp only [List.getElem?_toArray, List.getElem?_cons_succ, List.getElem?_cons_zero]; exact rfl
                    · rfl
                    · kernel_rfl
                    · kernel_rfl
                    · kernel_rfl
                    · exact fun _ _ _ _ h => h
                    apply Exists.intro
                    apply And.intro
                    · apply yr_run; rfl; intro w' hw'; go_simp; (try with_reducible rfl)
                    simp only [Act.put, List.setIfInBounds_toArray, List.set_cons_zero, List.set_cons_succ]
                    apply wpR_next 18 (some 110)
                    · simp only [List.getElem?_toArray, List.getElem?_cons_succ, List.getElem?_cons_zero]; exact rfl
                    · rfl
                    · kernel_rfl
                    · kernel_rfl
                    · kernel_rfl
                    · exact fun _ _ _ _ h => h
                    apply Exists.intro
                    apply And.intro
                    · apply yr_run; rfl; intro w' hw'; go_simp; (try with_reducible rfl)
                    simp only [Act.put, List.setIfInBounds_toArray, List.set_cons_zero, List.set_cons_succ]
                    apply wpR_next 19 (some 111)
                    · simp only [List.getElem?_toArray, List.getElem?_cons_succ, List.getElem?_cons_zero]; exact rfl
                    · rfl
                    · kernel_rfl
                    · kernel_rfl
                    · kernel_rfl
                    · exact fun _ _ _ _ h => h
                    apply Exists.intro
                    apply And.intro
                    · apply yr_run; rfl; intro w' hw'; go_simp; (try with_reducible rfl)
                    simp only [Act.put, List.setIfInBounds_toArray, List.set_cons_zero, List.set_cons_succ]
                    apply wpR_next 20 (some 112)
                    · simp only [List.getElem?_toArray, List.getElem?_cons_succ, List.getElem?_cons_zero]; exact rfl
                    · rfl
                    · kernel_rfl
                    · kernel_rfl
                    · kernel_rfl
                    · exact fun _ _ _ _ h => h
                    apply Exists.intro
                    apply And.intro
                    · apply yr_run; rfl; intro w' hw'; go_simp; (try with_reducible rfl)
                    simp only [Act.put, List.setIfInBounds_toArray, List.set_cons_zero, List.set_cons_succ]
                    apply wpR_next 21 (some 113)
                    · simp only [List.getElem?_toArray, List.getElem?_cons_succ, List.getElem?_cons_zero]; exact rfl
                    · rfl
                    · kernel_rfl
                    · kernel_rfl
                    · kernel_rfl
                    · exact fun _ _ _ _ h => h
                    apply Exists.intro
                    apply And.intro
                    · apply yr_run; rfl; intro w' hw'; go_simp; (try with_reducible rfl)
                    simp only [Act.put, List.setIfInBounds_toArray, List.set_cons_zero, List.set_cons_succ]
                    apply wpR_next 22 (some 4)
                    · simp only [List.getElem?_toArray, List.getElem?_cons_succ, List.getElem?_cons_zero]; exact rfl
                    · rfl
                    · kernel_rfl
                    · kernel_rfl
                    · kernel_rfl
                    · exact fun _ _ _ _ h => h
                    apply Exists.intro
                    apply And.intro
                    · apply yr_run; rfl; intro w' hw'; go_simp; (try with_reducible rfl)
                    simp only [Act.put, List.setIfInBounds_toArray, List.set_cons_zero, List.set_cons_succ]
                    refine wpR_done (by kernel_rfl) ?_ _
                    intro W6 hw6
                    have HBt := Lib.hid (bel_bl HBu.out hw6)
                    clear hw6
                    go_wp2
                    go_ret
                    exact ⟨rfl, HBt.out⟩
end Go.Proofs.Ytibbibpfnpjjdaa

/- 'NetCopies' answers true for any calls ahead, and any on the copy.
   No condition beyond the row's own. -/
namespace Go.Proofs.Ytibbibpfnpjjdaa
open Go.ChangeShapes Go.WideShapes Go.ChangeAt Go.RowKit
namespace lawNetCopies

set_option maxRecDepth 100000 in
theorem contract (H : Type) (enc : TypeId × Value → H) (W : World) (base : Nat) (args : Array Value) (ds gs : List (DataW H)) (before : List MemPlace)
    (hval : ∀ (j : Nat) t v, Try.f7.params[j]? = some t → args[j]? = some v → Value.okWide Try.prog W .any base t v)
    (hW : DataW.Whole enc Try.prog Try.f7.params.toList Rows.netCopiesSpec.vars false W args.toList ds gs before) :
    Calls Try.prog 7 args W fun e W' => ∃ v, e = .returned v ∧ Rows.netCopiesSpec.post enc Try.prog Try.f7 false true false false W args v W' := by
  have hW' := hW
  obtain ⟨p, q, hA, hV, rfl, hfz, hnd⟩ := hW
  obtain ⟨rfl, rfl⟩ := trodVars_none hV
  rw [Try.params7] at hA hval
  obtain ⟨v0, v1, d0, d1, p0, p1, rfl, rfl, rfl, h0, h1⟩ := trodAll_two hA
  obtain ⟨a, rfl, hx0⟩ := open_row1_slice (row1_opn H) Try.underlying22 (by kernel_rfl) rawC_len (by decide) (hval 0 22 v0 rfl rfl) h0
  obtain ⟨b, rfl, hx1⟩ := open_row1_slice (row1_opn H) Try.underlying22 (by kernel_rfl) rawC_len (by decide) (hval 1 22 v1 rfl rfl) h1
  refine (law_copies a.1 a.2.1 a.2.2.1 (a.2.2.2.map opOf) b.1 b.2.1 b.2.2.1 (b.2.2.2.map opOf) W (by rw [← rows_op]; exact hx0.2.1) (fun o ho => by obtain ⟨z, hz, rfl⟩ := List.mem_map.1 ho; exact op_ok (hx0.2.2 z hz)) (by rw [← rows_op]; exact hx1.2.1) (fun o ho => by obtain ⟨z, hz, rfl⟩ := List.mem_map.1 ho; exact op_ok (hx1.2.2 z hz))).mono fun e W' ⟨he, hb⟩ => ⟨_, he, ?_⟩
  exact law_post Try.laidOut (by kernel_rfl) (tb := 4) (by kernel_rfl) Try.underlying4 rfl ⟨rfl, rfl, rfl⟩ hW' hb

set_option maxRecDepth 100000 in
theorem lifted (os : Os) (started : os.Started) (H : Type) (enc : TypeId × Value → H) :
    ReturnsInHanded {} Try.checked os 7 .any (Rows.netCopiesSpec.pre6 enc Try.prog Try.f7 Rows.netCopiesRow.domain false) (Rows.netCopiesSpec.post enc Try.prog Try.f7 false true false false) := by
  refine returnsInHanded_of_change (C := Try.checked) Try.own started (by kernel_rfl) Try.func7
    (ChangeSpec.witness6 (enc := enc) (C := Try.checked) false ⟨#[], #[.slice none 0 0, .slice none 0 0], []⟩ 8 (by kernel_rfl) (by kernel_rfl) (by kernel_rfl) (by kernel_rfl)) ?_
  intro W base args ds gs before hval hW _ _
  exact contract H enc W base args ds gs before hval hW

theorem proved : Rows.NetCopiesSaid :=
  OpenClaim.holds_of_wide 7 Try.f7 rfl rfl rfl rfl rfl rfl rfl ⟨rfl, rfl, rfl, rfl, rfl⟩ rfl rfl rfl rfl rfl (by kernel_rfl) Try.func7 (by kernel_rfl)
    (of_decide_eq_true (by kernel_rfl)) (by unfold Func.isWrapper; first | (rw [if_pos (by decide +kernel)]; kernel_rfl) | (rw [if_neg (by decide +kernel)]; exact ⟨rfl, rfl⟩))
    (fun os started H enc _ => lifted os started H enc)
end lawNetCopies
end Go.Proofs.Ytibbibpfnpjjdaa
