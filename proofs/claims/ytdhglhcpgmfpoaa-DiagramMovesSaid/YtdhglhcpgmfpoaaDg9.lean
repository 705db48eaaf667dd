/- The document's examples: loop, shown. -/
import Derived.Test.YtdhglhcpgmfpoaaDg8
namespace Go.Proofs.Ytdhglhcpgmfpoaa
open Go.RowKit
set_option linter.unusedSimpArgs false
set_option linter.unusedVariables false

theorem RdS.of_whole {W : World} {g : Nat} {t : TypeId} {cs : List Value} {n size : Nat} (h : Whole W g t cs) (hl : cs.length = n * size) : RdS W W.heap.size size (some ⟨g, 0, none⟩) n n cs :=
  ⟨hl, fun e => (by cases e), Nat.le_refl _, fun a ha _ => (by obtain rfl := Option.some.inj ha; exact h.lt), fun a ha j u hu => (by
    obtain rfl := Option.some.inj ha
    rw [Addr.add_lit]
    simpa using h.cell hu)⟩
theorem RdS.no (W : World) (B size : Nat) : RdS W B size none 0 0 [] := ⟨by simp, fun _ => ⟨rfl, rfl⟩, Nat.le_refl _, fun a h => (by cases h), fun a h => (by cases h)⟩
def lpV (r : Option Addr) : VC := ((1, 1), (r, 2, 2, [(1, 2, 0), (1, 2, 1)]), ByteArray.empty, 0)
def lpE : EC := ((1, 2), ByteArray.empty, 0)
set_option maxRecDepth 100000 in
set_option maxHeartbeats 2000000 in
theorem loop_any (w : World) : Calls Try.prog 33 #[] w fun e w' => ∃ a b r, e = .returned (.agg #[.slice a 1 1, .slice b 1 1]) ∧
    DgIn w' a 1 1 [lpV r] b 1 1 [lpE] ∧ Below w.heap.size w w' := by
  go_enter Try.func33, Try.ntmps33
  go_wp2_with fail
  refine ret_whole rfl w.heap.size rfl (((((Whole.new_ w 25 [_, _]).alloc _).alloc _).alloc _).alloc _) Try.underlying25 rfl (by kernel_rfl) rfl ?_
  refine ⟨_, _, some ⟨w.heap.size + 1 + 1, 0, none⟩, rfl, ⟨RdS.of_whole (t := 39) ((Whole.new2 (by simp)).alloc _) rfl, RdS.of_whole (t := 43) (Whole.new2 (by simp)) rfl, ?_⟩, bel_al (bel_al (bel_al (bel_al (below1 w _) _) _) _) _⟩
  intro x hx
  obtain rfl := List.mem_singleton.1 hx
  exact ⟨by show 2 ≤ maxLen; unfold maxLen; omega, RdS.whole3 (t := 36) (L := [(1, 2, 0), (1, 2, 1)]) (((Whole.new2 (by simp)).alloc _).alloc _)⟩
theorem lp_form0 : formD [lpV none] [lpE] = 0 := by kernel_rfl
theorem lp_less0 : formD [lpV none] [] = 10 := by kernel_rfl
theorem lp_form (r : Option Addr) : formD [lpV r] [lpE] = 0 := (show formD [lpV r] [lpE] = formD [lpV none] [lpE] from rfl).trans lp_form0
theorem lp_less (r : Option Addr) : formD [lpV r] [] = 10 := (show formD [lpV r] [] = formD [lpV none] [] from rfl).trans lp_less0
set_option maxRecDepth 100000 in
set_option maxHeartbeats 2000000 in
theorem shown_any (w : World) : Calls Try.prog 10 #[] w fun e w' => e = .returned (.bool true) ∧ Below w.heap.size w w' := by
  go_enter Try.func10, Try.ntmps10
  go_wp2_with fail
  refine (loop_any w).mono ?_
  rintro e w1 ⟨a, b, r, rfl, hd, hb⟩
  have hwd : ∀ v ∈ [lpV r], ∀ d ∈ v.2.1.2.2.2, wfD d := by
    intro v hv d hd
    obtain rfl := List.mem_singleton.1 hv
    replace hd : d ∈ [((1 : Int), (2 : Int), (0 : Int)), (1, 2, 1)] := hd
    rcases List.mem_cons.1 hd with rfl | hd
    · exact ⟨by decide, by decide, by decide⟩
    · obtain rfl := List.mem_singleton.1 hd
      exact ⟨by decide, by decide, by decide⟩
  have hwr : ∀ x ∈ [lpV r], x.2.1.2.1 ≤ 1000000 := by
    intro x hx
    obtain rfl := List.mem_singleton.1 hx
    show 2 ≤ 1000000
    omega
  have hf1 : ∀ W, Below w1.heap.size w1 W → Calls Try.prog 12 #[.agg #[.slice a 1 1, .slice b 1 1]] W fun e w' => e = .returned (.int .i64 0) ∧ Below W.heap.size W w' := fun W hB => by
    have := form_any a 1 1 [lpV r] b 1 1 [lpE] W (hd.below hB) hwr (fun e he => (by obtain rfl := List.mem_singleton.1 he; exact ⟨⟨by decide, by decide, by decide⟩, ⟨by decide, by decide, by decide⟩⟩)) hwd
    rwa [lp_form] at this
  have hf2 : ∀ W, Below w1.heap.size w1 W → Calls Try.prog 12 #[.agg #[.slice a 1 1, .slice none 0 0]] W fun e w' => e = .returned (.int .i64 10) ∧ Below W.heap.size W w' := fun W hB => by
    have := form_any a 1 1 [lpV r] none 0 0 [] W ⟨hd.v.bl hB, RdS.no _ _ _, (hd.below hB).r⟩ hwr (fun e he => (by cases he)) hwd
    rwa [lp_less] at this
  have HF1 := Lib.hid hf1
  have HF2 := Lib.hid hf2
  have HB1 := Lib.hid hb
  clear hd hb hwd hwr hf1 hf2
  obtain ⟨w0, gw0⟩ : ∃ z, w1 = z := ⟨_, rfl⟩
  have hml : mayL { data := #[97, 32, 98] } = true := by kernel_rfl
  have HML := Lib.hid (fun W => hml ▸ maylabel_any { data := #[97, 32, 98] } W)
  clear gw0 w0 hml
  go_wp2_with fail
  refine (HF1.out _ (below1 _ _)).mono ?_
  rintro e w2 ⟨rfl, hb⟩
  have HW2 := Lib.hid ((Whole.new_ w1 25 [.slice a 1 1, .slice b 1 1]).below hb)
  have HB2 : RowKit.Hid (Below w1.heap.size w1 w2) := Lib.hid (below_after1 hb)
  obtain ⟨g, gg⟩ : ∃ z, w1.heap.size = z := ⟨_, rfl⟩
  rw [gg] at HW2 ⊢
  have Gg := Lib.hid gg
  have c0 := HW2.out.cell (i := 0) rfl
  have c1 := HW2.out.cell (i := 1) rfl
  have f1 := HW2.out.free 1
  have HB3 := Lib.hid (HB2.out.setCell (p := ⟨g, 1, none⟩) (by rw [Gg.out]; exact Nat.le_refl _) (.slice none 0 0))
  clear hb gg HF1
  go_wp2_with fail
  refine (HF2.out _ HB3.out).mono ?_
  rintro e w4 ⟨rfl, hb⟩
  have HB4 := Lib.hid (bel_bl HB3.out hb)
  clear hb c0 c1 f1 HF2
  go_wp2_with fail
  refine (HML.out _).mono ?_
  rintro e w5 ⟨rfl, hb⟩
  have HB5 : RowKit.Hid (Below w.heap.size w w5) := Lib.hid (bel_bl HB1.out (bel_bl HB4.out hb))
  clear hb
  go_wp2
  go_ret
  exact ⟨rfl, HB5.out⟩
end Go.Proofs.Ytdhglhcpgmfpoaa
