/- Trace. -/
import Derived.Test.YtjkbcpikdkidhaaFc3
namespace Go.Proofs.Ytjkbcpikdkidhaa
open Go.RowKit
set_option linter.unusedSimpArgs false
set_option linter.unusedVariables false


/-- S are the keys of g. -/
def KeysD (g : D → Option D) (S : List D) : Prop := S.Nodup ∧ (∀ d ∈ S, wfD d) ∧ ∀ x, wfD x → (x ∈ S ↔ (g x).isSome = true)
theorem MapD.keysD {w : World} {b n : Nat} {g : D → Option D} {S : List D} (h : MapD w b n (opV g) S) : KeysD g S :=
  ⟨h.nd, h.wf, fun x hx => by rw [h.keys hx]; unfold opV; simp⟩
theorem nxR_some {P : D → Prop} (R : List D) (hR : ∀ d ∈ R, P d) : ∀ k (f : D → Option D), k ≤ R.length → (∀ d e, f d = some e → P e) → ∀ d e, nxR R k f d = some e → P e
  | 0, f, _, hf => hf
  | k + 1, f, hk, hf => fun d e he => by
    unfold nxR at he
    split at he
    · obtain rfl := Option.some.inj he
      have hl : (k + 1) % R.length < R.length := Nat.mod_lt _ (by omega)
      rw [List.getD_eq_getElem?_getD, List.getElem?_eq_getElem hl]
      exact hR _ (List.getElem_mem hl)
    · exact nxR_some R hR k f (by omega) hf d e he
theorem nxV_some {P : D → Prop} : ∀ (L : List VC) (f : D → Option D), (∀ v ∈ L, ∀ d ∈ v.2.1.2.2.2, P d) → (∀ d e, f d = some e → P e) → ∀ d e, nxV L f d = some e → P e
  | [], f, _, hf => hf
  | v :: r, f, hL, hf => nxV_some r _ (fun u hu => hL u (List.mem_cons_of_mem _ hu)) (nxR_some _ (hL v (List.mem_cons_self ..)) _ _ (Nat.le_refl _) hf)
theorem sigM_some {P : D → Prop} {Vs : List VC} (h : ∀ v ∈ Vs, ∀ d ∈ v.2.1.2.2.2, P d) : ∀ d e, sigM Vs d = some e → P e := nxV_some Vs _ h (fun _ _ q => by cases q)
theorem nxR_key {P : D → Prop} (R : List D) (hR : ∀ d ∈ R, P d) : ∀ k (f : D → Option D), k ≤ R.length → (∀ d, (f d).isSome = true → P d) → ∀ d, (nxR R k f d).isSome = true → P d
  | 0, f, _, hf => hf
  | k + 1, f, hk, hf => fun d he => by
    unfold nxR at he
    split at he
    · rename_i e
      have hl : k < R.length := by omega
      rw [e, List.getD_eq_getElem?_getD, List.getElem?_eq_getElem hl]
      exact hR _ (List.getElem_mem hl)
    · exact nxR_key R hR k f (by omega) hf d he
theorem nxV_key {P : D → Prop} : ∀ (L : List VC) (f : D → Option D), (∀ v ∈ L, ∀ d ∈ v.2.1.2.2.2, P d) → (∀ d, (f d).isSome = true → P d) → ∀ d, (nxV L f d).isSome = true → P d
  | [], f, _, hf => hf
  | v :: r, f, hL, hf => nxV_key r _ (fun u hu => hL u (List.mem_cons_of_mem _ hu)) (nxR_key _ (hL v (List.mem_cons_self ..)) _ _ (Nat.le_refl _) hf)
theorem sigM_key {P : D → Prop} {Vs : List VC} (h : ∀ v ∈ Vs, ∀ d ∈ v.2.1.2.2.2, P d) : ∀ d, (sigM Vs d).isSome = true → P d := nxV_key Vs _ h (fun _ q => by cases q)
set_option maxRecDepth 100000 in
set_option maxHeartbeats 4000000 in
theorem trace_any (A : Option Addr) (n c : Nat) (Vs : List VC) (B : Option Addr) (m k : Nat) (Es : List EC) (x1 x2 x3 : Int) (w : World) (h : DgIn w A n c Vs B m k Es) (hn : n ≤ 1000000) (hr : ∀ x ∈ Vs, x.2.1.2.1 ≤ 1000000) (hs : ∀ v ∈ Vs, ∀ d ∈ v.2.1.2.2.2, wfS d)
    (hx : wfD (x1, x2, x3)) (hK : ∀ S, KeysD (sigM Vs) S → S.length ≤ 1000000) :
    Calls Try.prog 24 #[.agg #[.slice A n c, .slice B m k], .agg #[.int .i64 x1, .int .i64 x2, .int .i64 x3]] w fun e w' => ∃ S A' c', KeysD (sigM Vs) S ∧ e = .returned (.slice A' (faceL (sigM Vs) S.length (x1, x2, x3)).length c') ∧
      w'.ownsRow w.heap.size 29 3 (.slice A' (faceL (sigM Vs) S.length (x1, x2, x3)).length c') (faceL (sigM Vs) S.length (x1, x2, x3)).length (dartsV (faceL (sigM Vs) S.length (x1, x2, x3))) ∧ Below w.heap.size w w' := by
  have HD := Lib.hid h
  have Hn := Lib.hid hn
  have Hr := Lib.hid hr
  have Hs := Lib.hid hs
  have Hx := Lib.hid hx
  have HK := Lib.hid hK
  clear h hn hr hs hx hK
  go_enter Try.func24, Try.ntmps24
  go_upto_region 1 with fail
  have hx0 : Whole ((w.alloc (.cells #[.slice A n c, .slice B m k] 25)).alloc (.cells #[.int .i64 x1, .int .i64 x2, .int .i64 x3] 29)) (w.heap.size) 25 [.slice A n c, .slice B m k] := ((Whole.new_ w 25 [.slice A n c, .slice B m k]).alloc (.cells #[.int .i64 x1, .int .i64 x2, .int .i64 x3] 29))
  have hx1 : Whole ((w.alloc (.cells #[.slice A n c, .slice B m k] 25)).alloc (.cells #[.int .i64 x1, .int .i64 x2, .int .i64 x3] 29)) (w.heap.size + 1) 29 [.int .i64 x1, .int .i64 x2, .int .i64 x3] := (Whole.new2 (w := (w.alloc (.cells #[.slice A n c, .slice B m k] 25))) (by simp))
  have hbl : Below w.heap.size w ((w.alloc (.cells #[.slice A n c, .slice B m k] 25)).alloc (.cells #[.int .i64 x1, .int .i64 x2, .int .i64 x3] 29)) := (bel_al (below1 w (.cells #[.slice A n c, .slice B m k] 25)) (.cells #[.int .i64 x1, .int .i64 x2, .int .i64 x3] 29))
  have hsz : w.heap.size + 1 + 1 ≤ (((w.alloc (.cells #[.slice A n c, .slice B m k] 25)).alloc (.cells #[.int .i64 x1, .int .i64 x2, .int .i64 x3] 29))).heap.size := by simp
  obtain ⟨W0, gW0⟩ : ∃ z, ((w.alloc (.cells #[.slice A n c, .slice B m k] 25)).alloc (.cells #[.int .i64 x1, .int .i64 x2, .int .i64 x3] 29)) = z := ⟨_, rfl⟩
  rw [gW0] at hx0 hx1 hbl hsz
  obtain ⟨b1, gb1⟩ : ∃ z, w.heap.size + 1 = z := ⟨_, rfl⟩
  rw [gb1] at hx1
  obtain ⟨b0, gb0⟩ : ∃ z, w.heap.size = z := ⟨_, rfl⟩
  rw [gb0] at hx0
  have HX0 := Lib.hid hx0
  have HX1 := Lib.hid hx1
  have HB0 := Lib.hid hbl
  have HS0 := Lib.hid hsz
  have Gb0 := Lib.hid gb0
  have Lb0 : RowKit.Hid (w.heap.size ≤ b0) := Lib.hid (by omega)
  have Gb1 := Lib.hid gb1
  have Lb1 : RowKit.Hid (w.heap.size ≤ b1) := Lib.hid (by omega)
  have N01 : RowKit.Hid (b0 ≠ b1) := Lib.hid (by omega)
  rw [gW0, gb1, gb0]
  clear gW0 hbl hsz hx0 hx1 gb0 gb1
  have ld0 : ∀ w', Kept Nil_ W0.drew w' → w'.cell? ⟨b0, 0, none⟩ = some (.slice A n c) := fun w' h => h.nil_cell (HX0.out.dr.cell (i := 0) rfl)
  have ld1 : ∀ w', Kept Nil_ W0.drew w' → w'.cell? ⟨b0, 1, none⟩ = some (.slice B m k) := fun w' h => h.nil_cell (HX0.out.dr.cell (i := 1) rfl)
  have ld2 : ∀ w', Kept Nil_ W0.drew w' → w'.cell? ⟨b1, 0, none⟩ = some (.int .i64 x1) := fun w' h => h.nil_cell (HX1.out.dr.cell (i := 0) rfl)
  have ld3 : ∀ w', Kept Nil_ W0.drew w' → w'.cell? ⟨b1, 1, none⟩ = some (.int .i64 x2) := fun w' h => h.nil_cell (HX1.out.dr.cell (i := 1) rfl)
  have ld4 : ∀ w', Kept Nil_ W0.drew w' → w'.cell? ⟨b1, 2, none⟩ = some (.int .i64 x3) := fun w' h => h.nil_cell (HX1.out.dr.cell (i := 2) rfl)
  refine wp_region_tail (Nil_) [] (by kernel_rfl) ?_
  apply wpT_next 0 (some 5) (by kernel_rfl)
  · simp only [List.getElem?_toArray, List.getElem?_cons_succ, List.getElem?_cons_zero]; exact rfl
  · rfl
  · kernel_rfl
  · kernel_rfl
  · kernel_rfl
  · exact fun _ _ _ _ h => h
  apply Exists.intro
  apply And.intro
  · apply yr_run; rfl; intro w' hw'; go_simp; (try with_reducible rfl)
  simp only [Act.put, List.setIfInBounds_toArray, List.set_cons_zero, List.set_cons_succ]
  apply wpT_next 2 (some 7) (by kernel_rfl)
  · simp only [List.getElem?_toArray, List.getElem?_cons_succ, List.getElem?_cons_zero]; exact rfl
  · rfl
  · kernel_rfl
  · kernel_rfl
  · kernel_rfl
  · exact fun _ _ _ _ h => h
  apply Exists.intro
  apply And.intro
  · apply yr_run; rfl; intro w' hw'; go_simp; (try with_reducible rfl)
  simp only [Act.put, List.setIfInBounds_toArray, List.set_cons_zero, List.set_cons_succ]
  apply wpT_call 1 (some 6)
  · simp only [List.getElem?_toArray, List.getElem?_cons_succ, List.getElem?_cons_zero]; exact rfl
  · rfl
  · kernel_rfl
  · rfl
  · intro w'; go_simp; first | done | exact ⟨rfl, rfl⟩ | with_reducible rfl
  intro w' hw'
  refine (sigmas_any A n c Vs B m k Es w' (HD.out.bl (bel_bl (bel_dr HB0.out) hw')) Hn.out Hr.out (fun v hv d hd => (Hs.out v hv d hd).1)).mono ?_
  rintro e w2 ⟨bm, q, S, rfl, hm2, hq2, hbm, hb2⟩
  refine ⟨_, rfl, Kept.of_below hb2, ?_⟩
  have HM2 := Lib.hid hm2
  have HKS := Lib.hid hm2.keysD
  have HB2 := Lib.hid (bel_bl (bel_bl (bel_dr HB0.out) hw') hb2)
  have HX2 := Lib.hid ((HX1.out.dr.bl hw').bl hb2)
  obtain ⟨V2, gV2⟩ : ∃ z, w2 = z := ⟨_, rfl⟩
  rw [gV2] at HM2 HB2 HX2 ⊢
  clear hw' hm2 hq2 hbm hb2 gV2 ld0 ld1 ld2 ld3 ld4
  simp only [Act.put, List.setIfInBounds_toArray, List.set_cons_zero, List.set_cons_succ]
  apply wpT_call 3 (some 8)
  · simp only [List.getElem?_toArray, List.getElem?_cons_succ, List.getElem?_cons_zero]; exact rfl
  · rfl
  · kernel_rfl
  · rfl
  · intro w'; go_simp; first | done | exact ⟨rfl, rfl⟩ | with_reducible rfl
  intro w' hw'
  refine (round_any bm x1 x2 x3 w').mono ?_
  rintro e w3 ⟨rfl, rfl⟩
  refine ⟨_, rfl, Kept.of_below (below2 w' _ _), ?_⟩
  have HM3 := Lib.hid (((HM2.out.bl hw').al (.cells #[.map (some bm)] 76)).al (.cells #[.int .i64 x1, .int .i64 x2, .int .i64 x3] 29))
  have HN3 := Lib.hid ((Whole.new_ w' 76 [.map (some bm)]).al (.cells #[.int .i64 x1, .int .i64 x2, .int .i64 x3] 29))
  have HX3 := Lib.hid (Whole.new2 (w := w'.alloc (.cells #[.map (some bm)] 76)) (g := w'.heap.size + 1) (t := 29) (cs := [.int .i64 x1, .int .i64 x2, .int .i64 x3]) (by simp))
  have HB3 := Lib.hid (bel_al (bel_al (bel_bl HB2.out hw') (.cells #[.map (some bm)] 76)) (.cells #[.int .i64 x1, .int .i64 x2, .int .i64 x3] 29))
  obtain ⟨V3, gV3⟩ : ∃ z, (w'.alloc (.cells #[.map (some bm)] 76)).alloc (.cells #[.int .i64 x1, .int .i64 x2, .int .i64 x3] 29) = z := ⟨_, rfl⟩
  obtain ⟨bx, gbx⟩ : ∃ z, w'.heap.size + 1 = z := ⟨_, rfl⟩
  obtain ⟨bn, gbn⟩ : ∃ z, w'.heap.size = z := ⟨_, rfl⟩
  rw [gV3] at HM3 HN3 HX3 HB3 ⊢
  rw [gbx] at HX3 ⊢
  rw [gbn] at HN3 ⊢
  clear hw' gV3 gbx gbn HM2 HB2
  simp only [Act.put, List.setIfInBounds_toArray, List.set_cons_zero, List.set_cons_succ]
  apply wpT_call 4 (some 9)
  · simp only [List.getElem?_toArray, List.getElem?_cons_succ, List.getElem?_cons_zero]; exact rfl
  · rfl
  · kernel_rfl
  · rfl
  · intro w'; go_simp; first | done | exact ⟨rfl, rfl⟩ | with_reducible rfl
  intro w' hw'
  refine (collect_any bx bn bm q (sigM Vs) S (x1, x2, x3) Hx.out (fun h => sigM_key Hs.out _ h) (sigM_some Hs.out) w' (HX3.out.bl hw') (HN3.out.bl hw') (HM3.out.bl hw') (HK.out _ HKS.out)).mono ?_
  rintro e w4 ⟨A5, c5, rfl, hr4, hb4⟩
  refine ⟨_, rfl, Kept.of_below hb4, ?_⟩
  have HR4 := Lib.hid hr4
  have HB4 := Lib.hid (bel_bl (bel_bl HB3.out hw') hb4)
  have Hle : RowKit.Hid (w.heap.size ≤ w'.heap.size) := Lib.hid (by have := HB3.out.size; have := hw'.size; omega)
  clear hw' hr4 hb4 HB3 HX3 HN3 HM3
  simp only [Act.put, List.setIfInBounds_toArray, List.set_cons_zero, List.set_cons_succ]
  apply wpT_next 5 (some 4) (by kernel_rfl)
  · simp only [List.getElem?_toArray, List.getElem?_cons_succ, List.getElem?_cons_zero]; exact rfl
  · rfl
  · kernel_rfl
  · kernel_rfl
  · kernel_rfl
  · exact fun _ _ _ _ h => h
  apply Exists.intro
  apply And.intro
  · apply yr_run; rfl; intro w' hw'; go_simp; (try with_reducible rfl)
  simp only [Act.put, List.setIfInBounds_toArray, List.set_cons_zero, List.set_cons_succ]
  refine wpT_done (by kernel_rfl) ?_ _
  intro W8 hw8
  have HR8 := Lib.hid (own_up HR4.out hw8)
  have HB8 := Lib.hid (bel_bl HB4.out hw8)
  clear hw8
  go_wp2
  go_ret
  exact ⟨S, A5, c5, HKS.out, rfl, own_base HR8.out Hle.out, HB8.out⟩
end Go.Proofs.Ytjkbcpikdkidhaa
