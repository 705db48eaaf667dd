/- The document's Faces. -/
import Derived.Test.YtpindjknngcccaaFc14
import Derived.Test.YtpindjknngcccaaFc9
namespace Go.Proofs.Ytpindjknngcccaa
open Go.RowKit
set_option linter.unusedSimpArgs false
set_option linter.unusedVariables false


/-- Rows of one's own that do not touch each other: one that grows (T), one that is read (L), rows of rows (X). -/
structure PR (w : World) (lo : Nat) (At : Option Addr) (ct : Nat) (T : List D) (Al : Option Addr) (cl : Nat) (L : List D) (Ao : Option Addr) (co : Nat) (X : List (Rw D)) (W : World) : Prop where
  ow : Ow w lo 39 3 (.slice At T.length ct) T.length (dartsV T) W
  l : W.ownsRow lo 39 3 (.slice Al L.length cl) L.length (dartsV L)
  r : RowsIn W lo 40 39 3 encD Ao X.length co X
  nl : ∀ g, (Value.slice Al L.length cl).ownBlock = some g → (Value.slice At T.length ct).ownBlock ≠ some g
  nx : ∀ x ∈ X, ∀ g, (rwV x).ownBlock = some g → (Value.slice At T.length ct).ownBlock ≠ some g
section
variable {w W W' : World} {lo : Nat} {At : Option Addr} {ct : Nat} {T : List D} {Al : Option Addr} {cl : Nat} {L : List D} {Ao : Option Addr} {co : Nat} {X : List (Rw D)}
theorem PR.up (h : PR w lo At ct T Al cl L Ao co X W) (hb : Below W.heap.size W W') : PR w lo At ct T Al cl L Ao co X W' :=
  ⟨h.ow.up hb, own_up h.l hb, h.r.up hb, h.nl, h.nx⟩
theorem PR.bl (h : PR w lo At ct T Al cl L Ao co X W) (hb : Below W.heap.size W W') : PR w lo At ct T Al cl L Ao co X W' := h.up hb
theorem PR.al (h : PR w lo At ct T Al cl L Ao co X W) (o : Obj) : PR w lo At ct T Al cl L Ao co X (W.alloc o) := h.up (below1 W o)
theorem PR.dr (h : PR w lo At ct T Al cl L Ao co X W) : PR w lo At ct T Al cl L Ao co X W.drew := h.up ((Below.refl _ _).drew)
/-- A row more among the rows. -/
theorem PR.out (h : PR w lo At ct T Al cl L Ao co X W) (A9 : Option Addr) (c9 : Nat) (F : List D) (hf : W.ownsRow lo 39 3 (.slice A9 F.length c9) F.length (dartsV F)) (hd : ∀ y ∈ X, ∀ a b, y.1 = some a → A9 = some b → a.block ≠ b.block)
    (ht : ∀ g, (Value.slice A9 F.length c9).ownBlock = some g → (Value.slice At T.length ct).ownBlock ≠ some g) (hn : X.length ≤ 1000000) (A1 : Option Addr) (c1 : Nat) (hr : RdS W W.heap.size 1 A1 1 c1 [.slice A9 F.length c9]) :
    ∃ A' c' W', (Builtin.append_ #[65, 65] 65 #[.slice Ao X.length co, .slice A1 1 c1]).run Try.prog W = .ok (.slice A' (X.length + 1) c') W' ∧ PR w lo At ct T Al cl L A' c' (X ++ [(A9, c9, F)]) W' ∧ Below lo W W' := by
  obtain ⟨iR, hiR, hr0, hr1, hr2⟩ := info_partsD info_rowD
  obtain ⟨A', c', W2, hrun, hR, hb, hg⟩ := h.r.push (P := Try.prog) ((A9, c9, F) : Rw D) (by rw [rowsD]; exact hf) hd 65 65 iR _ Try.underlying65 hiR hr0 hr1 hr2 rfl (by decide) hn h.ow.hi A1 c1 hr
  have hk : ∀ {v : Value} {n : Nat} {xs : List Value}, W.ownsRow lo 39 3 v n xs → W2.ownsRow lo 39 3 v n xs := fun {v n xs} ho => ho.kept hg (by
    cases hv : v.ownBlock with
    | none => exact .inl rfl
    | some g => exact .inr fun q => own_two h.r.row ho (by decide) q.symm hv)
  have hlo : ∀ k, (Value.slice Ao X.length co).ownBlock = some k → lo ≤ k := fun k hk => (h.r.row.lt k hk).1
  refine ⟨A', c', W2, hrun, ⟨⟨hk h.ow.own, h.ow.below.grown hg h.ow.below.size (fun k e => Nat.le_trans h.ow.lo (hlo k e)), h.ow.lo, Nat.le_trans h.ow.hi hg.size⟩, hk h.l, ?_, h.nl, fun x hx => ?_⟩, hb⟩
  · rw [List.length_append]
    exact hR
  · rcases List.mem_append.1 hx with hx | hx
    · exact h.nx x hx
    · obtain rfl := List.mem_singleton.1 hx
      exact ht
/-- A row of the rows is told. -/
theorem PR.tell (h : PR w lo At ct T Al cl L Ao co X W) {A9 : Option Addr} {c9 : Nat} {F : List D} (hx : (A9, c9, F) ∈ X) (hn : T.length + F.length ≤ 1000000) :
    ∃ A' c' W', (Builtin.append_ #[40, 40] 40 #[.slice At T.length ct, .slice A9 F.length c9]).run Try.prog W = .ok (.slice A' (T ++ F).length c') W' ∧ PR w lo A' c' (T ++ F) Al cl L Ao co X W' ∧ Below lo W W' := by
  obtain ⟨i0, hi0, hz0, hz1, hz2⟩ := info_partsD info_dartD
  have hr : RdS W W.heap.size 3 A9 F.length c9 (dartsV F) := by
    have := own_rds (h.r.one _ hx)
    rw [rowsD] at this
    exact this
  obtain ⟨v, W2, hrun, how, hb, hg, ho⟩ := Ow.app2 (P := Try.prog) 40 40 39 i0 _ 3 24 lo Try.underlying40 hi0 hz0 hz1 hz2 rfl (by decide) _ T.length _ h.ow _ A9 F.length c9 (dartsV F) hr (dartsV_one F) (by unfold maxLen; omega) (by omega)
  rw [← dartsV_app, ← List.length_append] at how
  obtain ⟨A', c', rfl, -⟩ := how.rds
  have hll : ∀ {u : Value} {n : Nat} {xs : List Value}, W.ownsRow lo 39 3 u n xs → (∀ g, u.ownBlock = some g → (Value.slice At T.length ct).ownBlock ≠ some g) → ∀ g, u.ownBlock = some g → (Value.slice A' (T ++ F).length c').ownBlock ≠ some g := fun {u n xs} hu hne g hg2 q => by
    rcases ho with e | e
    · exact hne g hg2 (e ▸ q)
    · rw [e] at q
      have := (hu.lt g hg2).2
      have := Option.some.inj q
      omega
  refine ⟨A', c', W2, hrun, ⟨how, h.l.kept hg ?_, h.r.far hg (fun g e q => own_two h.r.row h.ow.own (by decide) q e) (fun x hx g e q => h.nx x hx g q e), hll h.l h.nl, fun x hx => hll (h.r.one x hx) (h.nx x hx)⟩, hb⟩
  cases hv : (Value.slice Al L.length cl).ownBlock with
  | none => exact .inl rfl
  | some g => exact .inr fun q => h.nl g hv q.symm
end
structure OwnR (lo : Nat) (A9 : Option Addr) (c9 : Nat) (F : List D) (W : World) : Prop where
  own : W.ownsRow lo 39 3 (.slice A9 F.length c9) F.length (dartsV F)
theorem OwnR.bl {lo : Nat} {A9 : Option Addr} {c9 : Nat} {F : List D} {W W' : World} (h : OwnR lo A9 c9 F W) (hb : Below W.heap.size W W') : OwnR lo A9 c9 F W' := ⟨own_up h.own hb⟩
set_option maxRecDepth 100000 in
set_option maxHeartbeats 4000000 in
theorem rfaces_any (A : Option Addr) (n c : Nat) (Vs : List VC) (B : Option Addr) (m k : Nat) (Es : List EC) (w : World) (h : DgIn w A n c Vs B m k Es) (hf : Formed Vs Es) :
    Calls Try.prog 42 #[.agg #[.slice A n c, .slice B m k]] w fun e w' => ∃ A' c' X, e = .returned (.slice A' X.length c') ∧ RowsIn w' (w.heap.size + 1) 40 39 3 encD A' X.length c' X ∧ X.map (·.2.2) = orbsF (phF Vs) 80 (dsE Es) [] ∧ Below w.heap.size w w' := by
  have HDa := Lib.hid h
  have HFm := Lib.hid hf
  have hm : m ≤ 40 := (hf.small h).2.1
  have hme : Es.length = m := h.e.rlen eC_len (by decide)
  have HDs := Lib.hid (fun W (h : DgIn W A n c Vs B m k Es) => rdarts5_any A n c Vs B m k Es W h (by omega))
  have HTr : RowKit.Hid (∀ y1 y2 y3 : Int, (y1, y2, y3) ∈ ringsOf Vs → ∀ W, DgIn W A n c Vs B m k Es → Calls Try.prog 25 #[.agg #[.slice A n c, .slice B m k], .agg #[.int .i64 y1, .int .i64 y2, .int .i64 y3]] W fun e w' => ∃ A' c', e = .returned (.slice A' (orbT (phF Vs) (y1, y2, y3) 80 (y1, y2, y3)).length c') ∧ w'.ownsRow W.heap.size 39 3 (.slice A' (orbT (phF Vs) (y1, y2, y3) 80 (y1, y2, y3)).length c') (orbT (phF Vs) (y1, y2, y3) 80 (y1, y2, y3)).length (dartsV (orbT (phF Vs) (y1, y2, y3) 80 (y1, y2, y3))) ∧ (orbT (phF Vs) (y1, y2, y3) 80 (y1, y2, y3)).length ≤ 80 ∧ Below W.heap.size W w') := Lib.hid (fun y1 y2 y3 hy W h => by
    obtain ⟨e, _, _, q⟩ := (hf.mem _).1 hy
    have h1 := rtrace_any A n c Vs B m k Es y1 y2 y3 W h hf (by simp only at q; omega)
    have e1 : faceD Vs (y1, y2, y3) = orbT (phF Vs) (y1, y2, y3) 80 (y1, y2, y3) := by rw [faceD, if_pos hy]
    have h8 := faceD_len hf (y1, y2, y3)
    rw [e1] at h1 h8
    refine h1.mono ?_
    rintro e w' ⟨A', c', r1, r2, r3⟩
    exact ⟨A', c', r1, r2, h8, r3⟩)
  have hds := hf.ds
  have hdl := dsE_len Es
  obtain ⟨L, gL⟩ : ∃ z, dsE Es = z := ⟨_, rfl⟩
  rw [gL] at HDs hds hdl ⊢
  rw [hme] at hdl
  rw [← hdl] at HDs
  have hl80 : L.length ≤ 80 := by omega
  have HLm := Lib.hid hds
  clear h hf gL hds hdl hme hm
  go_enter Try.func42, Try.ntmps42
  go_upto_region 1 with fail
  have hx0 : Whole (w.alloc (.cells #[.slice A n c, .slice B m k] 25)) (w.heap.size) 25 [.slice A n c, .slice B m k] := (Whole.new_ w 25 [.slice A n c, .slice B m k])
  have hbl : Below w.heap.size w (w.alloc (.cells #[.slice A n c, .slice B m k] 25)) := (below1 w (.cells #[.slice A n c, .slice B m k] 25))
  have hsz : w.heap.size + 1 ≤ ((w.alloc (.cells #[.slice A n c, .slice B m k] 25))).heap.size := by simp
  obtain ⟨W0, gW0⟩ : ∃ z, (w.alloc (.cells #[.slice A n c, .slice B m k] 25)) = z := ⟨_, rfl⟩
  rw [gW0] at hx0 hbl hsz
  obtain ⟨b0, gb0⟩ : ∃ z, w.heap.size = z := ⟨_, rfl⟩
  rw [gb0] at hx0
  have HX0 := Lib.hid hx0
  have HB0 := Lib.hid hbl
  have HS0 := Lib.hid hsz
  have Gb0 := Lib.hid gb0
  have Lb0 : RowKit.Hid (w.heap.size ≤ b0) := Lib.hid (by omega)
  rw [gW0, gb0]
  clear gW0 hbl hsz hx0 gb0
  have c0 := (HX0.out.al (.cells #[] 40)).al (.cells #[] 39) |>.cell (i := 0) rfl
  have c1 := (HX0.out.al (.cells #[] 40)).al (.cells #[] 39) |>.cell (i := 1) rfl
  have HB1 := Lib.hid (bel_al (bel_al HB0.out (.cells #[] 40)) (.cells #[] 39))
  have HX1 := Lib.hid ((HX0.out.al (.cells #[] 40)).al (.cells #[] 39))
  have HO1 : RowKit.Hid (Ow w (b0 + 1) 39 3 (.slice (some ⟨W0.heap.size + 1, 0, none⟩) 0 0) 0 [] ((W0.alloc (.cells #[] 40)).alloc (.cells #[] 39))) := Lib.hid (by
    have h1 := Ow.new_ (W := W0.alloc (.cells #[] 40)) (cs := #[]) (e := 39) (size := 3) (n := 0) (B := b0 + 1) (bel_al HB0.out (.cells #[] 40)) (by have := Lb0.out; omega) (by have := HX0.out.lt; simp; omega) (by unfold maxLen; omega) rfl
    rw [World.size_alloc] at h1
    exact h1)
  have HR1 : RowKit.Hid (RowsIn ((W0.alloc (.cells #[] 40)).alloc (.cells #[] 39)) (b0 + 1) 40 39 3 encD (some ⟨W0.heap.size, 0, none⟩) 0 0 []) := Lib.hid ⟨own_up (World.ownsRow_made W0 #[] 0 HX0.out.lt (Nat.zero_le _) (by simp)) (below1 _ _), rfl, fun x hx => (by cases hx), fun i j x y a b _ h => (by simp at h)⟩
  go_wp2_with fail
  refine (HDs.out _ (HDa.out.bl HB1.out)).mono ?_
  rintro e w3 ⟨Al, cl, rfl, hol, hb3⟩
  have hsz : w.heap.size ≤ b0 := Lb0.out
  have HP3 : RowKit.Hid (PR w (b0 + 1) (some ⟨W0.heap.size + 1, 0, none⟩) 0 [] Al cl L (some ⟨W0.heap.size, 0, none⟩) 0 [] w3) := Lib.hid ⟨HO1.out.up hb3, own_base hol (by have := HX1.out.lt; omega), HR1.out.up hb3, fun g e q => by
    have h1 := (hol.lt g e).1
    have h2 : W0.heap.size + 1 = g := Option.some.inj q
    simp at h1 h2
    omega, fun x hx => (by cases hx)⟩
  have HX3 := Lib.hid (HX1.out.bl hb3)
  clear c0 c1 HX0 HB0 HB1 HX1 HO1 HR1 hol hb3 hsz HDs
  obtain ⟨A0, gA0⟩ : ∃ z, some (⟨W0.heap.size, 0, none⟩ : Addr) = z := ⟨_, rfl⟩
  obtain ⟨T0, gT0⟩ : ∃ z, some (⟨W0.heap.size + 1, 0, none⟩ : Addr) = z := ⟨_, rfl⟩
  rw [gA0, gT0] at HP3
  rw [gA0, gT0]
  clear gA0 gT0
  go_wp2
  go_loopw [3, 4, 6] (fun so st si wr => ∃ (i : Nat) (Ao : Option Addr) (co : Nat) (At : Option Addr) (ct : Nat) (T : List D) (X : List (Rw D)), i ≤ L.length ∧ si = .int .i64 i ∧ so = .slice Ao X.length co ∧ st = .slice At T.length ct ∧ RowKit.Hid (Whole wr b0 25 [.slice A n c, .slice B m k]) ∧ RowKit.Hid (PR w (b0 + 1) At ct T Al cl L Ao co X wr) ∧ RowKit.Hid (orbsF (phF Vs) 80 L [] = X.map (·.2.2) ++ orbsF (phF Vs) 80 (L.drop i) T) ∧ RowKit.Hid (X.length ≤ i ∧ T.length ≤ i * 80)) (fun _ _ si _ => L.length - (intOf si).toNat)
  case atStart => exact ⟨0, A0, 0, T0, 0, [], [], by omega, rfl, rfl, rfl, HX3, HP3, Lib.hid rfl, Lib.hid ⟨Nat.zero_le _, Nat.zero_le _⟩⟩
  case round =>
    clear HX3 HP3
    obtain ⟨i, Ao, co, At, ct, T, X, hi, rfl, rfl, rfl, HX, HP, HI, Hn⟩ := hrel
    obtain ⟨wo, gwo⟩ : ∃ z, wr = z := ⟨_, rfl⟩
    rw [gwo] at HX HP ⊢
    clear gwo
    by_cases hin : i < L.length
    · obtain ⟨bd, of2, rfl, hbd, hc⟩ := (own_rds HP.out.l).darts (by omega)
      obtain ⟨d1, d2, d3⟩ := hc i hin
      have hdr : L.drop i = L.getD i (0, 0, 0) :: L.drop (i + 1) := by
        rw [List.drop_eq_getElem_cons hin, List.getD_eq_getElem?_getD, List.getElem?_eq_getElem hin]
        rfl
      have hxr : L.getD i (0, 0, 0) ∈ ringsOf Vs := (HLm.out _).1 (by rw [List.getD_eq_getElem?_getD, List.getElem?_eq_getElem hin]; exact List.getElem_mem hin)
      obtain ⟨x, gx⟩ : ∃ v, L.getD i (0, 0, 0) = v := ⟨_, rfl⟩
      rw [gx] at d1 d2 d3 hdr hxr
      obtain ⟨x1, x2, x3⟩ := x
      have hI := HI.out
      rw [hdr, orbsF] at hI
      obtain ⟨hXi, hTi⟩ := Hn.out
      have HIx : RowKit.Hid (∀ W, RdS W W.heap.size 3 At T.length ct (dartsV T) → Calls Try.prog 27 #[.slice At T.length ct, .agg #[.int .i64 x1, .int .i64 x2, .int .i64 x3]] W fun e w' => e = .returned (.int .i64 (idxD T (x1, x2, x3))) ∧ Below W.heap.size W w') := Lib.hid (fun W h => rfindex_any At T.length ct T (x1, x2, x3) W h (by omega))
      by_cases hxT : (x1, x2, x3) ∈ T
      · rw [if_pos hxT] at hI
        obtain ⟨e1, e2⟩ := idxD_mem hxT
        rw [e1] at HIx
        have ht : decide ((0 : Int) ≤ ((T.idxOf (x1, x2, x3) : Nat) : Int)) = true := decide_eq_true (by omega)
        obtain ⟨q, gq⟩ : ∃ z, T.idxOf (x1, x2, x3) = z := ⟨_, rfl⟩
        rw [gq] at HIx ht
        have HI2 := Lib.hid hI
        clear hI HI hdr gx hc hbd e1 e2 gq hxT
        go_wp2_with (first
          | (go_at_call 27; refine (HIx.out _ (own_rds HP.out.ow.own)).mono ?_; rintro e w5 ⟨rfl, hb5⟩
             have HP5 := Lib.hid (HP.out.bl hb5)
             have HX5 := Lib.hid (HX.out.bl hb5)
             clear hb5 d1 d2 d3 HP HX))
        go_roundw
        case rel => exact ⟨i + 1, Ao, co, At, ct, T, X, by omega, by go_num, rfl, rfl, HX5, HP5, HI2, Lib.hid ⟨by omega, by omega⟩⟩
        case measure => simp [intOf]; omega
      · rw [if_neg hxT] at hI
        rw [idxD_no hxT] at HIx
        have ht : decide ((0 : Int) ≤ (-1 : Int)) = false := by decide
        have HTx := Lib.hid (HTr.out x1 x2 x3 hxr)
        obtain ⟨F, gF⟩ : ∃ z, orbT (phF Vs) (x1, x2, x3) 80 (x1, x2, x3) = z := ⟨_, rfl⟩
        rw [gF] at HTx hI
        have HI2 := Lib.hid hI
        have HCx : RowKit.Hid (∀ W, Below wo.heap.size wo W → W.cell? ⟨bd, of2 + i * 3, none⟩ = some (.int .i64 x1) ∧ W.cell? ⟨bd, of2 + i * 3 + 1, none⟩ = some (.int .i64 x2) ∧ W.cell? ⟨bd, of2 + i * 3 + 2, none⟩ = some (.int .i64 x3)) := Lib.hid (fun W hb => ⟨(hb.cell (p := ⟨bd, of2 + i * 3, none⟩) hbd).trans d1, (hb.cell (p := ⟨bd, of2 + i * 3 + 1, none⟩) hbd).trans d2, (hb.cell (p := ⟨bd, of2 + i * 3 + 2, none⟩) hbd).trans d3⟩)
        clear hI HI hdr gx hc hbd gF hxT hxr
        go_upto_region 8 with (first
          | (go_at_call 27; refine (HIx.out _ (own_rds HP.out.ow.own)).mono ?_; rintro e w5 ⟨rfl, hb5⟩
             have HP5 := Lib.hid (HP.out.bl hb5)
             have HX5 := Lib.hid (HX.out.bl hb5)
             have HB5 : RowKit.Hid (Below wo.heap.size wo w5) := Lib.hid hb5
             clear hb5 d1 d2 d3 HP HX ht))
        have D0_911 := Lib.hid (HX5.out.dr)
        have P_911 := Lib.hid (HP5.out.dr)
        have Bel_911 := Lib.hid (bel_dr HB5.out)
        have ld912 : ∀ w', Kept Nil_ w5.drew w' → w'.cell? ⟨b0, 0, none⟩ = some (.slice A n c) := fun w' h => h.nil_cell (D0_911.out.cell (i := 0) rfl)
        have ld913 : ∀ w', Kept Nil_ w5.drew w' → w'.cell? ⟨b0, 1, none⟩ = some (.slice B m k) := fun w' h => h.nil_cell (D0_911.out.cell (i := 1) rfl)
        have ld914 : ∀ w', Kept Nil_ w5.drew w' → w'.cell? ⟨bd, of2 + i * 3, none⟩ = some (.int .i64 x1) := fun w' h => h.nil_cell ((HCx.out _ Bel_911.out).1)
        have ld915 : ∀ w', Kept Nil_ w5.drew w' → w'.cell? ⟨bd, of2 + i * 3 + 1, none⟩ = some (.int .i64 x2) := fun w' h => h.nil_cell ((HCx.out _ Bel_911.out).2.1)
        have ld916 : ∀ w', Kept Nil_ w5.drew w' → w'.cell? ⟨bd, of2 + i * 3 + 2, none⟩ = some (.int .i64 x3) := fun w' h => h.nil_cell ((HCx.out _ Bel_911.out).2.2)
        refine wp_region_reg Nil_ (by kernel_rfl) ?_
        apply wpR_next 0 (some 25)
        · simp only [List.getElem?_toArray, List.getElem?_cons_succ, List.getElem?_cons_zero]; exact rfl
        · rfl
        · kernel_rfl
        · kernel_rfl
        · kernel_rfl
        · exact fun _ _ _ _ h => h
        apply Exists.intro
        apply And.intro
        · apply yr_run; rfl; intro w' hw'; go_simp; (try with_reducible rfl)
        simp only [Act.put, List.setIfInBounds_toArray, List.set_cons_zero, List.set_cons_succ]
        apply wpR_next 1 (some 26)
        · simp only [List.getElem?_toArray, List.getElem?_cons_succ, List.getElem?_cons_zero]; exact rfl
        · rfl
        · kernel_rfl
        · kernel_rfl
        · kernel_rfl
        · exact fun _ _ _ _ h => h
        apply Exists.intro
        apply And.intro
        · apply yr_run; rfl; intro w' hw'; go_simp; (try with_reducible rfl)
        simp only [Act.put, List.setIfInBounds_toArray, List.set_cons_zero, List.set_cons_succ]
        apply wpR_next 2 (some 27)
        · simp only [List.getElem?_toArray, List.getElem?_cons_succ, List.getElem?_cons_zero]; exact rfl
        · rfl
        · kernel_rfl
        · kernel_rfl
        · kernel_rfl
        · exact fun _ _ _ _ h => h
        apply Exists.intro
        apply And.intro
        · apply yr_run; rfl; intro w' hw'; go_simp; (try with_reducible rfl)
        simp only [Act.put, List.setIfInBounds_toArray, List.set_cons_zero, List.set_cons_succ]
        apply wpR_next 3 (some 28)
        · simp only [List.getElem?_toArray, List.getElem?_cons_succ, List.getElem?_cons_zero]; exact rfl
        · rfl
        · kernel_rfl
        · kernel_rfl
        · kernel_rfl
        · exact fun _ _ _ _ h => h
        apply Exists.intro
        apply And.intro
        · apply yr_run; rfl; intro w' hw'; go_simp; (try with_reducible rfl)
        simp only [Act.put, List.setIfInBounds_toArray, List.set_cons_zero, List.set_cons_succ]
        apply wpR_next 4 (some 29)
        · simp only [List.getElem?_toArray, List.getElem?_cons_succ, List.getElem?_cons_zero]; exact rfl
        · rfl
        · kernel_rfl
        · kernel_rfl
        · kernel_rfl
        · exact fun _ _ _ _ h => h
        apply Exists.intro
        apply And.intro
        · apply yr_run; rfl; intro w' hw'; go_simp; (try with_reducible rfl)
        simp only [Act.put, List.setIfInBounds_toArray, List.set_cons_zero, List.set_cons_succ]
        apply wpR_call 5 (some 30)
        · simp only [List.getElem?_toArray, List.getElem?_cons_succ, List.getElem?_cons_zero]; exact rfl
        · rfl
        · kernel_rfl
        · rfl
        · intro w'; go_simp; first | done | exact ⟨rfl, rfl⟩ | with_reducible rfl
        intro w' hw'
        refine (HTx.out _ (HDa.out.bl (P_911.out.bl hw').ow.below)).mono ?_
        rintro e w917 ⟨A9, c9, rfl, ho9, hl9, hb917⟩
        have Hl9 := Lib.hid hl9
        have hF : OwnR (b0 + 1) A9 c9 F w917 := ⟨own_base ho9 (by have := (D0_911.out.bl hw').lt; omega)⟩
        have HNt : RowKit.Hid (∀ g, (Value.slice A9 F.length c9).ownBlock = some g → (Value.slice At T.length ct).ownBlock ≠ some g) := Lib.hid (fun g e q => by
          have h1 := (ho9.lt g e).1
          have h2 := ((P_911.out.bl hw').ow.own.lt g q).2
          omega)
        have HNx : RowKit.Hid (∀ y ∈ X, ∀ a b : Addr, y.1 = some a → A9 = some b → a.block ≠ b.block) := Lib.hid (fun y hy a b ha hb q => by
          have h1 := (ho9.lt b.block (by rw [hb]; rfl)).1
          have h2 := (((P_911.out.bl hw').r.one y hy).lt a.block (by rw [rw_block, ha]; rfl)).2
          omega)
        clear ho9 hl9
        have D0_917 := Lib.hid ((D0_911.out.bl hw').bl hb917)
        have P_917 := Lib.hid ((P_911.out.bl hw').bl hb917)
        have Bel_917 := Lib.hid (bel_bl (bel_bl Bel_911.out hw') hb917)
        have ld918 := fun w'' (h : Kept Nil_ w917 w'') => ld912 w'' ((Kept.of_ext hw').trans ((Kept.of_below hb917).trans h))
        have ld919 := fun w'' (h : Kept Nil_ w917 w'') => ld913 w'' ((Kept.of_ext hw').trans ((Kept.of_below hb917).trans h))
        have ld920 := fun w'' (h : Kept Nil_ w917 w'') => ld914 w'' ((Kept.of_ext hw').trans ((Kept.of_below hb917).trans h))
        have ld921 := fun w'' (h : Kept Nil_ w917 w'') => ld915 w'' ((Kept.of_ext hw').trans ((Kept.of_below hb917).trans h))
        have ld922 := fun w'' (h : Kept Nil_ w917 w'') => ld916 w'' ((Kept.of_ext hw').trans ((Kept.of_below hb917).trans h))
        refine ⟨_, rfl, Kept.of_below hb917, ?_⟩
        clear hw' hb917
        have F_917 := Lib.hid hF
        clear hF
        simp only [Act.put, List.setIfInBounds_toArray, List.set_cons_zero, List.set_cons_succ]
        apply wpR_next 6 (some 7)
        · simp only [List.getElem?_toArray, List.getElem?_cons_succ, List.getElem?_cons_zero]; exact rfl
        · rfl
        · kernel_rfl
        · kernel_rfl
        · kernel_rfl
        · exact fun _ _ _ _ h => h
        apply Exists.intro
        apply And.intro
        · apply yr_run; rfl; intro w' hw'; go_simp; (try with_reducible rfl)
        simp only [Act.put, List.setIfInBounds_toArray, List.set_cons_zero, List.set_cons_succ]
        refine wpR_done (by kernel_rfl) ?_ _
        intro w923 hw'
        have D0_924 := Lib.hid (D0_917.out.bl hw')
        have P_924 := Lib.hid (P_917.out.bl hw')
        have F_924 := Lib.hid (F_917.out.bl hw')
        have Bel_924 := Lib.hid (bel_bl Bel_917.out hw')
        clear D0_917 P_917 F_917 Bel_917
        clear hw'
        go_upto_region 9 with fail
        refine wp_region_lit ?_
        refine wl_read (v := ?_) (some 31) rfl (by rfl) ?_ ?_
        rotate_left
        · go_simp; (try with_reducible rfl)
        simp only [Act.put, List.setIfInBounds_toArray, List.set_cons_zero, List.set_cons_succ]
        refine wl_read (v := ?_) (some 32) rfl (by rfl) ?_ ?_
        rotate_left
        · go_simp; (try with_reducible rfl)
        simp only [Act.put, List.setIfInBounds_toArray, List.set_cons_zero, List.set_cons_succ]
        refine wl_buildSlice (some 33) rfl (by rfl) 65 40 1 #[(0, .tmp 32)] (by rfl) Try.underlying65 #[.slice A9 F.length c9] (by kernel_rfl) ?_
        simp only [Act.put, List.setIfInBounds_toArray, List.set_cons_zero, List.set_cons_succ]
        have HLs : RowKit.Hid (RdS (w923.alloc (.cells #[.slice A9 F.length c9] 40)) (w923.alloc (.cells #[.slice A9 F.length c9] 40)).heap.size 1 (some ⟨w923.heap.size, 0, none⟩) 1 1 [.slice A9 F.length c9]) := Lib.hid (RdS.of_whole (cs := [.slice A9 F.length c9]) (Whole.new_ _ _ _) rfl)
        obtain ⟨A7, c7, w7, hrun, hp7, hb7⟩ := (P_924.out.al (.cells #[.slice A9 F.length c9] 40)).out A9 c9 F (own_up F_924.out.own (below1 _ _)) HNx.out HNt.out (by omega) _ _ HLs.out
        refine wl_run (some 34) rfl (by rfl) (exec_append (by rfl) (by rfl) (by rfl) hrun) ?_
        simp only [Act.put, List.setIfInBounds_toArray, List.set_cons_zero, List.set_cons_succ]
        have HX7 := Lib.hid ((D0_924.out.al (.cells #[.slice A9 F.length c9] 40)).at_ (hb7.block b0 (by omega)))
        obtain ⟨A8, c8, w8, hrun8, hp8, hb8⟩ := hp7.tell (List.mem_append.2 (.inr (List.mem_singleton.2 rfl))) (by have := Hl9.out; omega)
        have HX8 := Lib.hid (HX7.out.at_ (hb8.block b0 (by omega)))
        have HP8 : RowKit.Hid (PR w (b0 + 1) A8 c8 (T ++ F) (some ⟨bd, of2, none⟩) cl L A7 c7 (X ++ [(A9, c9, F)]) w8) := Lib.hid hp8
        have Hrun8 := Lib.hid hrun8
        have HI8 : RowKit.Hid (orbsF (phF Vs) 80 L [] = (X ++ [((A9, c9, F) : Rw D)]).map (·.2.2) ++ orbsF (phF Vs) 80 (L.drop (i + 1)) (T ++ F)) := Lib.hid (by rw [HI2.out, List.map_append]; simp)
        have Hn8 : RowKit.Hid ((X ++ [((A9, c9, F) : Rw D)]).length ≤ i + 1 ∧ (T ++ F).length ≤ (i + 1) * 80) := Lib.hid ⟨by simp; omega, by have := Hl9.out; rw [List.length_append]; omega⟩
        have hxl : (X ++ [((A9, c9, F) : Rw D)]).length = X.length + 1 := by simp
        clear hrun hp7 hb7 HX7 hrun8 hp8 hb8 HLs HNx HNt Hl9 HI2 D0_924 P_924 F_924 Bel_924
        go_upto_region 10 with fail
        go_wp2_with (first
          | (at_builtin
             refine wpList_app rfl (.tmp 35) (.tmp 36) _ rfl rfl rfl Hrun8.out ?_
             clear Hrun8))
        go_roundw
        case rel => exact ⟨i + 1, A7, c7, A8, c8, T ++ F, _, by omega, by go_num, by rw [hxl], by rw [List.length_append], HX8, HP8, HI8, Hn8⟩
        case measure => simp [intOf]; omega
    · obtain rfl : L.length = i := by omega
      have hI := HI.out
      rw [List.drop_length] at hI
      have HI2 : RowKit.Hid (orbsF (phF Vs) 80 L [] = X.map (·.2.2)) := Lib.hid (by rw [hI]; simp [orbsF])
      clear hI HI
      go_wp2
      go_ret
      exact ⟨Ao, co, X, rfl, by have := Gb0.out; rw [this]; exact HP.out.r, HI2.out.symm, HP.out.ow.below⟩
end Go.Proofs.Ytpindjknngcccaa
