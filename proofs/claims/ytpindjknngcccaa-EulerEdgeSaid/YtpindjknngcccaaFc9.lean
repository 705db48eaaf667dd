/- face.Faces. -/
import Derived.Maps.OwnIn
import Derived.Test.YtpindjknngcccaaFc8
namespace Go.Proofs.Ytpindjknngcccaa
open Go.RowKit
set_option linter.unusedSimpArgs false
set_option linter.unusedVariables false


attribute [local go_sem] Oper.semAt_some

/-- What has come of a face: in the row of box bf, and told in the map bt, T having been told ahead. -/
def FcI (V : World) (bt bf bl : Nat) (T : List D) (q : Nat) (p : List D2) (W : World) : Prop :=
  Kept (fun i => i = bt ∨ i = bf ∨ bl ≤ i) V W ∧ (∃ A c, Whole W bf 40 [.slice A p.length c] ∧ W.ownsRow (bl + 3) 39 3 (.slice A p.length c) p.length (dartsV (p.map (·.1)))) ∧
    ∃ ft St, MapD W bt (q + p.length) ft St ∧ ∀ y, (ft y).isSome = true ↔ y ∈ T ∨ y ∈ p.map (·.1)
theorem Kept.gr {S : Nat → Prop} {V W W' : World} {r : Option Nat} (h : Kept S V W) (hg : W.grownBy W' r) (hr : ∀ k, r = some k → S k) : Kept S V W' :=
  h.trans ⟨hg.os, hg.tape, hg.output, hg.size, fun i hi hn => hg.block i hi (fun e => hn (hr i e.symm))⟩
theorem info_rowD : (Try.prog.info? 40).map (fun i => (i.zero, i.size, i.bytes)) = some (some (.slice none 0 0), 1, 24) := by kernel_rfl
theorem MapD.notcells {w : World} {b n : Nat} {f : D → Option Value} {S : List D} {cs : Array Value} {t : TypeId} {fr : Nat × Nat} (h : MapD w b n f S) (hc : w.heap[b]? = some (.cells cs t fr)) : False := by
  obtain ⟨D, ⟨es, clock, h1, _⟩, _⟩ := h
  rw [h1] at hc
  cases hc
theorem own_cells {W : World} {lo k n g : Nat} {e : TypeId} {v : Value} {xs : List Value} (h : W.ownsRow lo e k v n xs) (hg : v.ownBlock = some g) : ∃ cs, W.heap[g]? = some (.cells cs e (0, 0)) := by
  rcases h.2 with ⟨q, _⟩ | ⟨g', cap, cur, q1, q2, q3, q4⟩
  · rw [q] at hg; cases hg
  · rw [q1] at hg
    obtain rfl : g' = g := Option.some.inj hg
    exact ⟨_, q3⟩
theorem own_kept2 {V W : World} {lo k n bt bf bl nq : Nat} {e : TypeId} {v : Value} {xs : List Value} {f : D → Option Value} {S : List D} (h : V.ownsRow lo e k v n xs) (hk : Kept (fun i => i = bt ∨ i = bf ∨ bl ≤ i) V W) (hm : MapD V bt nq f S) (hlt : ∀ g, v.ownBlock = some g → g < bf) (hbf : bf < bl) : W.ownsRow lo e k v n xs :=
  own_at h fun g hg => by
    obtain ⟨cs, hc⟩ := own_cells h hg
    refine hk.block g (Array.getElem?_eq_some_iff.1 hc).1 (fun q => ?_)
    have := hlt g hg
    rcases q with rfl | q | q
    · exact hm.notcells hc
    · omega
    · omega
theorem newC (W : World) (y1 y2 y3 : Int) : ∀ j u, [Value.int .i64 y1, Value.int .i64 y2, Value.int .i64 y3][j]? = some u → (W.alloc (.cells #[.int .i64 y1, .int .i64 y2, .int .i64 y3] 39)).cell? ((⟨W.heap.size, 0, none⟩ : Addr).add j) = some u := fun j u hj => by
  have e := (Whole.new_ W 39 [.int .i64 y1, .int .i64 y2, .int .i64 y3]).cell hj
  rw [Addr.add_lit, Nat.zero_add]
  exact e
theorem FcI.abs {V : World} {bt bf bl : Nat} {T : List D} {q : Nat} {p : List D2} (h1 : bt < bl) (h2 : bf < bl) : AbS bl (FcI V bt bf bl T q p) := by
  rintro W W' r ⟨hk, ⟨A, c, e1, e2⟩, ft, St, e3, e4⟩ hg hr1 hr2
  refine ⟨hk.gr hg (fun k e => by cases e; exact .inr (.inr hr1)), ⟨A, c, e1.at_ (hg.block bf e1.lt (fun e => by cases e; omega)), e2.kept hg (.inr (fun e => by have := (e2.lt r e).1; omega))⟩, ft, St, e3.grown hg (fun e => by cases e; omega), e4⟩
theorem FcI.al {V W : World} {bt bf bl : Nat} {T : List D} {q : Nat} {p : List D2} (h : FcI V bt bf bl T q p W) (o : Obj) : FcI V bt bf bl T q p (W.alloc o) := by
  obtain ⟨hk, ⟨A, c, e1, e2⟩, ft, St, e3, e4⟩ := h
  exact ⟨hk.trans (Kept.of_below (below1 W o)), ⟨A, c, e1.al o, e2.alloc o⟩, ft, St, e3.al o, e4⟩
set_option maxRecDepth 100000 in
set_option maxHeartbeats 4000000 in
theorem faces_any (A : Option Addr) (n c : Nat) (Vs : List VC) (B : Option Addr) (m k : Nat) (Es : List EC) (w : World) (h : DgIn w A n c Vs B m k Es) (hn : n ≤ 1000000) (hr : ∀ x ∈ Vs, x.2.1.2.1 ≤ 1000000) (hs : ∀ v ∈ Vs, ∀ d ∈ v.2.1.2.2.2, wfS d)
    (hK : ∀ S, KeysD (sigM Vs) S → S.length ≤ 1000000) (hdl : (dsV Vs).length ≤ 1000000) :
    Calls Try.prog 40 #[.agg #[.slice A n c, .slice B m k]] w fun e w' => ∃ S A' c' X, KeysD (sigM Vs) S ∧ e = .returned (.slice A' X.length c') ∧ RowsIn w' (w.heap.size + 1) 40 39 3 encD A' X.length c' X ∧ X.map (·.2.2) = facesF (sigM Vs) S.length (sortD (dsV Vs)) [] ∧ Below w.heap.size w w' := by
  have HD := Lib.hid h
  have Hn := Lib.hid hn
  have Hr := Lib.hid hr
  have Hs := Lib.hid hs
  have HK := Lib.hid hK
  have Hdl := Lib.hid hdl
  have hmm := @run_makeMap Try.prog
  obtain ⟨i0, hi0, hz0, hz1, hz2⟩ := info_partsD info_dartD
  obtain ⟨iR, hiR, hr0, hr1, hr2⟩ := info_partsD info_rowD
  clear h hn hr hs hK hdl
  refine (callsIn_wide (n := 0)).1 ?_
  refine callsIn_of_wp_marks Try.func40 rfl trivial ?_
  simp only [Try.ntmps40, List.size_toArray, List.length_cons, List.length_nil, Nat.reduceAdd, Nat.reduceSub, Array.replicate_succ, Array.replicate_zero, List.push_toArray, List.append_toArray, List.nil_append, List.cons_append]
  refine wpIn_wide.2 ?_
  go_upto_region 2 with fail
  have hx0 : Whole ((w.alloc (.cells #[.slice A n c, .slice B m k] 25)).alloc (.cells #[.slice none 0 0] 65)) (w.heap.size) 25 [.slice A n c, .slice B m k] := ((Whole.new_ w 25 [.slice A n c, .slice B m k]).alloc (.cells #[.slice none 0 0] 65))
  have hx1 : Whole ((w.alloc (.cells #[.slice A n c, .slice B m k] 25)).alloc (.cells #[.slice none 0 0] 65)) (w.heap.size + 1) 65 [.slice none 0 0] := (Whole.new2 (w := (w.alloc (.cells #[.slice A n c, .slice B m k] 25))) (by simp))
  have hbl : Below w.heap.size w ((w.alloc (.cells #[.slice A n c, .slice B m k] 25)).alloc (.cells #[.slice none 0 0] 65)) := (bel_al (below1 w (.cells #[.slice A n c, .slice B m k] 25)) (.cells #[.slice none 0 0] 65))
  have hsz : w.heap.size + 1 + 1 ≤ (((w.alloc (.cells #[.slice A n c, .slice B m k] 25)).alloc (.cells #[.slice none 0 0] 65))).heap.size := by simp
  obtain ⟨W0, gW0⟩ : ∃ z, ((w.alloc (.cells #[.slice A n c, .slice B m k] 25)).alloc (.cells #[.slice none 0 0] 65)) = z := ⟨_, rfl⟩
  rw [gW0] at hx0 hx1 hbl hsz
  obtain ⟨b1, gb1⟩ : ∃ z, w.heap.size + 1 = z := ⟨_, rfl⟩
  rw [gb1] at hx1
  obtain ⟨b0, gb0⟩ : ∃ z, w.heap.size = z := ⟨_, rfl⟩
  rw [gb0] at hx0
  have HX0 := Lib.hid hx0
  have HX1 := Lib.hid hx1
  have HB0 := Lib.hid hbl
  have HS0 := Lib.hid hsz
  have Gb0 := Lib.hid gb0
  have Lb0 : RowKit.Hid (w.heap.size ≤ b0) := Lib.hid (by omega)
  have Gb1 := Lib.hid gb1
  have Lb1 : RowKit.Hid (w.heap.size ≤ b1) := Lib.hid (by omega)
  have N01 : RowKit.Hid (b0 ≠ b1) := Lib.hid (by omega)
  rw [gW0, gb1, gb0]
  clear gW0 hbl hsz hx0 hx1 gb0 gb1
  have c0 := HX0.out.cell (i := 0) rfl
  have c1 := HX0.out.cell (i := 1) rfl
  go_upto_region 3 with (go_at_call 64; refine (sigmas_any A n c Vs B m k Es W0 (HD.out.bl HB0.out) Hn.out Hr.out (fun v hv d hd => (Hs.out v hv d hd).1)).mono ?_; rintro e w2 ⟨bm, q0, S, rfl, hm2, hq2, hbm, hb2⟩; have HM2 := Lib.hid hm2; have HKS := Lib.hid hm2.keysD; have HB2 := Lib.hid (bel_bl HB0.out hb2); have HX2 := Lib.hid (HX0.out.bl hb2); have HL2 := Lib.hid (HX1.out.bl hb2); have Hbm : RowKit.Hid (b1 < bm) := Lib.hid (by have := HX1.out.lt; omega); clear hm2 hq2 hbm hb2)
  clear c0 c1 HX0 HX1 HB0 HS0
  have HM3 := Lib.hid ((HM2.out.al (.map #[] 0)).al (.cells #[.map (some w2.heap.size)] 86))
  have HT3 : RowKit.Hid (MapD ((w2.alloc (.map #[] 0)).alloc (.cells #[.map (some w2.heap.size)] 86)) w2.heap.size 0 (fun _ => none) []) := Lib.hid ((MapD.made).al _)
  have HX3 := Lib.hid ((HX2.out.al (.map #[] 0)).al (.cells #[.map (some w2.heap.size)] 86))
  have HL3 := Lib.hid ((HL2.out.al (.map #[] 0)).al (.cells #[.map (some w2.heap.size)] 86))
  have HU3 := Lib.hid (Whole.new2 (w := w2.alloc (.map #[] 0)) (g := w2.heap.size + 1) (t := 86) (cs := [.map (some w2.heap.size)]) (by simp))
  have HB3 := Lib.hid (bel_al (bel_al HB2.out (.map #[] 0)) (.cells #[.map (some w2.heap.size)] 86))
  go_upto_region 4 with fail
  have hlm := HM2.out.lt
  have Hlm : RowKit.Hid (bm < w2.heap.size) := Lib.hid hlm
  obtain ⟨W3, gW3⟩ : ∃ z, (w2.alloc (.map #[] 0)).alloc (.cells #[.map (some w2.heap.size)] 86) = z := ⟨_, rfl⟩
  obtain ⟨bt, gbt⟩ : ∃ z, w2.heap.size = z := ⟨_, rfl⟩
  rw [gbt] at HM3 HT3 HX3 HL3 HU3 HB3 Hlm gW3 ⊢
  rw [gW3] at HM3 HT3 HX3 HL3 HU3 HB3 ⊢
  obtain ⟨b5, gb5⟩ : ∃ z, bt + 1 = z := ⟨_, rfl⟩
  have Hb5 : RowKit.Hid (b5 = bt + 1) := Lib.hid gb5.symm
  rw [gb5] at HU3 ⊢
  clear gW3 gb5 gbt hlm HM2 HX2 HL2 HB2 hmm
  have HB3s : RowKit.Hid (b0 ≤ W3.heap.size) := Lib.hid (by have := HB3.out.size; have := Gb0.out; omega)
  have c0 := HX3.out.cell (i := 0) rfl
  have c1 := HX3.out.cell (i := 1) rfl
  go_wp2_with (go_at_call 65; refine (darts_any A n c Vs B m k Es W3 (HD.out.bl HB3.out) Hn.out Hr.out).mono ?_; rintro e w4 ⟨Ad, cd, rfl, ho4, hb4⟩; have HO4 := Lib.hid ho4; have HB4 := Lib.hid (bel_bl HB3.out hb4); have HM4 := Lib.hid (HM3.out.bl hb4); have HT4 := Lib.hid (HT3.out.bl hb4); have HL4 := Lib.hid (HL3.out.bl hb4); have HU4 := Lib.hid (HU3.out.bl hb4); clear ho4 hb4)
  clear c0 c1 HM3 HT3 HX3 HL3 HU3 HB3
  obtain ⟨L, gL⟩ : ∃ z, sortD (dsV Vs) = z := ⟨_, rfl⟩
  have hLl : L.length = (dsV Vs).length := by rw [← gL]; simp [sortD]
  have HGL := Lib.hid gL
  rw [gL] at HO4
  rw [← hLl] at HO4 Hdl ⊢
  have HLwf : RowKit.Hid (∀ d ∈ L, wfS d) := Lib.hid (fun d hd => by
    rw [← gL] at hd
    have hd2 : d ∈ dsV Vs := (List.mergeSort_perm _ _).mem_iff.1 hd
    obtain ⟨v, hv, hdv⟩ := List.mem_flatMap.1 hd2
    exact Hs.out v hv d hdv)
  clear gL hLl
  have HF4 : RowKit.Hid (facesF (sigM Vs) S.length L [] = ([] : List (List D)) ++ facesF (sigM Vs) S.length (L.drop 0) []) := Lib.hid rfl
  have HK4 : RowKit.Hid (Marks w4 (b0 + 1) []) := Lib.hid trivial
  have HR4 : RowKit.Hid (RowsIn w4 (b0 + 1) 40 39 3 encD none 0 0 ([] : List (Rw D))) := Lib.hid (RowsIn.nil_ _ _)
  refine wp_loop (fun a' wr => ∃ (u7 u8 u9 u10 u19 u20 u21 u22 u23 u24 u25 u26 u27 u28 u29 u30 u31 u41 u42 u43 u44 u45 : Value), ∃ (i q l cl : Nat) (Al : Option Addr) (ft : D → Option Value) (St T : List D) (X : List (Rw D)) (ds : List Deferred), i ≤ L.length ∧ a' = { tmps := #[.agg #[.slice A n c, .slice B m k], .pointer (some ⟨b0, 0, none⟩), .slice none 0 0, .pointer (some ⟨b1, 0, none⟩), .map (some bm), .pointer (some ⟨b5, 0, none⟩), undef, u7, u8, u9, u10, undef, .agg #[.slice A n c, .slice B m k], .map (some bm), .map (some bt), .agg #[.slice A n c, .slice B m k], .slice Ad L.length cd, .int .i64 (L.length : Int), .int .i64 (i : Int), u19, u20, u21, u22, u23, u24, u25, u26, u27, u28, u29, u30, u31, undef, undef, undef, undef, undef, undef, undef, undef, undef, u41, u42, u43, u44, u45, undef], defers := ds } ∧
    RowKit.Hid (Below w.heap.size w wr) ∧ RowKit.Hid (MapD wr bm q0 (opV (sigM Vs)) S) ∧ RowKit.Hid (MapD wr bt q ft St ∧ q ≤ i * 1000000 ∧ ∀ y, (ft y).isSome = true ↔ y ∈ T) ∧ RowKit.Hid (Whole wr b1 65 [.slice Al l cl]) ∧ RowKit.Hid (Whole wr b5 86 [.map (some bt)]) ∧
    RowKit.Hid (wr.ownsRow (W3.heap.size + 1) 39 3 (.slice Ad L.length cd) L.length (dartsV L)) ∧ RowKit.Hid (RowsIn wr (b0 + 1) 40 39 3 encD Al l cl X ∧ l ≤ i) ∧ RowKit.Hid (facesF (sigM Vs) S.length L [] = X.map (·.2.2) ++ facesF (sigM Vs) S.length (L.drop i) T) ∧ RowKit.Hid (Marks wr (b0 + 1) ds))
    (fun a' _ => L.length - (intOf (a'.tmps.getD 18 undef)).toNat) ?_ ?_
  · exact ⟨_, _, _, _, _, _, _, _, _, _, _, _, _, _, _, _, _, _, _, _, _, _, 0, 0, 0, 0, none, (fun _ => none), [], [], [], [], by omega, rfl, HB4, HM4, Lib.hid ⟨HT4.out, by omega, fun y => by simp⟩, HL4, HU4, HO4, Lib.hid ⟨HR4.out, by omega⟩, HF4, HK4⟩
  · clear HB4 HM4 HT4 HL4 HU4 HO4 HR4 HF4 HK4
    rintro _ wr ⟨u7, u8, u9, u10, u19, u20, u21, u22, u23, u24, u25, u26, u27, u28, u29, u30, u31, u41, u42, u43, u44, u45, i, q, l, cl, Al, ft, St, T, X, ds, hi, rfl, HB, HM, HT, HL, HU, HO, HR, HF, HMk⟩
    by_cases hin : i < L.length
    · obtain ⟨bd, of2, rfl, hbd, hc⟩ := (own_rds HO.out).darts (by omega)
      obtain ⟨d1, d2, d3⟩ := hc i hin
      have hwx := HLwf.out (L.getD i (0, 0, 0)) (by rw [List.getD_eq_getElem?_getD, List.getElem?_eq_getElem hin]; exact List.getElem_mem hin)
      have hdr : L.drop i = L.getD i (0, 0, 0) :: L.drop (i + 1) := by
        rw [List.drop_eq_getElem_cons hin, List.getD_eq_getElem?_getD, List.getElem?_eq_getElem hin]
        rfl
      obtain ⟨x, gx⟩ : ∃ v, L.getD i (0, 0, 0) = v := ⟨_, rfl⟩
      rw [gx] at d1 d2 d3 hwx hdr
      have HFx := HF.out
      rw [hdr] at HFx
      obtain ⟨x1, x2, x3⟩ := x
      have Hwx := Lib.hid hwx
      have HFx := Lib.hid HFx
      clear hc hbd gx hdr hwx HF
      have HBa := Lib.hid (bel_al HB.out (.cells #[.int .i64 x1, .int .i64 x2, .int .i64 x3] 39))
      have HMa := Lib.hid (HM.out.al (.cells #[.int .i64 x1, .int .i64 x2, .int .i64 x3] 39))
      have HTa := Lib.hid (HT.out.1.al (.cells #[.int .i64 x1, .int .i64 x2, .int .i64 x3] 39))
      have HLa := Lib.hid (HL.out.al (.cells #[.int .i64 x1, .int .i64 x2, .int .i64 x3] 39))
      have HUa := Lib.hid (HU.out.al (.cells #[.int .i64 x1, .int .i64 x2, .int .i64 x3] 39))
      have HOa := Lib.hid (HO.out.alloc (.cells #[.int .i64 x1, .int .i64 x2, .int .i64 x3] 39))
      have HRa := Lib.hid (HR.out.1.al (.cells #[.int .i64 x1, .int .i64 x2, .int .i64 x3] 39))
      have HKa : RowKit.Hid (Marks (wr.alloc (.cells #[.int .i64 x1, .int .i64 x2, .int .i64 x3] 39)) (b0 + 1) ds) := Lib.hid (HMk.out.at_ (fun k h1 h2 => (Below.heap_alloc _ _ _ (Array.getElem?_eq_some_iff.1 h2).1).trans h2))
      have HXa := Lib.hid (Whole.new2 (w := wr) (t := 39) (cs := [.int .i64 x1, .int .i64 x2, .int .i64 x3]) rfl)
      go_upto_region 7 with fail
      clear d1 d2 d3
      have Hq := Lib.hid HT.out.2.1
      have HTk := Lib.hid HT.out.2.2
      have Hl := Lib.hid HR.out.2
      obtain ⟨wa, gwa⟩ : ∃ z, wr.alloc (.cells #[.int .i64 x1, .int .i64 x2, .int .i64 x3] 39) = z := ⟨_, rfl⟩
      obtain ⟨b7, gb7⟩ : ∃ z, wr.heap.size = z := ⟨_, rfl⟩
      rw [gwa] at HBa HMa HTa HLa HUa HOa HRa HKa HXa ⊢
      rw [gb7] at HXa ⊢
      clear gwa gb7 HB HM HT HL HU HO HR HMk
      have c0 := HXa.out.cell (i := 0) rfl
      have c1 := HXa.out.cell (i := 1) rfl
      have c2 := HXa.out.cell (i := 2) rfl
      have e0 := HUa.out.cell (i := 0) rfl
      by_cases hxT : (x1, x2, x3) ∈ T
      · have Hft := Lib.hid ((HTk.out _).2 hxT)
        have HF2 : RowKit.Hid (facesF (sigM Vs) S.length L [] = X.map (·.2.2) ++ facesF (sigM Vs) S.length (L.drop (i + 1)) T) := Lib.hid (by rw [HFx.out, facesF, if_pos hxT])
        obtain ⟨fv, gfv⟩ : ∃ z, (ft (x1, x2, x3)).getD (.int .i64 0) = z := ⟨_, rfl⟩
        go_upto_region 8 with (at_lookup; refine wl_mapLook rfl _ _ rfl rfl HTa.out.mapF Try.underlying86 (zero_intK _) (x := (x1, x2, x3)) Hwx.out.1 rfl ?_; rw [Hft.out, gfv])
        clear c0 c1 c2 e0 gfv
        go_wp2
        have hw2 : wrap64 ((i : Int) + 1) = ((i + 1 : Nat) : Int) := by
          have := Hdl.out
          unfold wrap64
          omega
        rw [hw2]
        exact ⟨⟨_, _, _, _, _, _, _, _, _, _, _, _, _, _, _, _, _, _, _, _, _, _, i + 1, q, l, cl, Al, ft, St, T, X, ds, by omega, rfl, HBa, HMa, Lib.hid ⟨HTa.out, Nat.le_trans Hq.out (Nat.mul_le_mul_right _ (Nat.le_succ i)), HTk.out⟩, HLa, HUa, HOa, Lib.hid ⟨HRa.out, by have := Hl.out; omega⟩, HF2, HKa⟩, by simp [intOf] <;> omega⟩
      · have Hft : RowKit.Hid ((ft (x1, x2, x3)).isSome = false) := Lib.hid (by
          cases hq : (ft (x1, x2, x3)).isSome with
          | false => rfl
          | true => exact absurd ((HTk.out _).1 hq) hxT)
        obtain ⟨fv, gfv⟩ : ∃ z, (ft (x1, x2, x3)).getD (.int .i64 0) = z := ⟨_, rfl⟩
        go_upto_region 8 with (at_lookup; refine wl_mapLook rfl _ _ rfl rfl HTa.out.mapF Try.underlying86 (zero_intK _) (x := (x1, x2, x3)) Hwx.out.1 rfl ?_; rw [Hft.out, gfv])
        clear gfv
        go_upto_region 10 with fail
        have HBf := Lib.hid (bel_al HBa.out (.cells #[.slice none 0 0] 40))
        have HMf := Lib.hid (HMa.out.al (.cells #[.slice none 0 0] 40))
        have HTf := Lib.hid (HTa.out.al (.cells #[.slice none 0 0] 40))
        have HLf := Lib.hid (HLa.out.al (.cells #[.slice none 0 0] 40))
        have HUf := Lib.hid (HUa.out.al (.cells #[.slice none 0 0] 40))
        have HOf := Lib.hid (HOa.out.alloc (.cells #[.slice none 0 0] 40))
        have HRf := Lib.hid (HRa.out.al (.cells #[.slice none 0 0] 40))
        have HXf := Lib.hid (HXa.out.al (.cells #[.slice none 0 0] 40))
        have HKf : RowKit.Hid (Marks (wa.alloc (.cells #[.slice none 0 0] 40)) (b0 + 1) ds) := Lib.hid (HKa.out.at_ (fun k h1 h2 => (Below.heap_alloc _ _ _ (Array.getElem?_eq_some_iff.1 h2).1).trans h2))
        have HWf := Lib.hid (Whole.new2 (w := wa) (t := 40) (cs := [.slice none 0 0]) rfl)
        have Hlt : RowKit.Hid ((∀ g, (Value.slice Al l cl).ownBlock = some g → b0 + 1 ≤ g ∧ g < wa.heap.size) ∧ (∀ x ∈ X, ∀ g, (rwV x).ownBlock = some g → b0 + 1 ≤ g ∧ g < wa.heap.size) ∧ ∀ g, (Value.slice (some ⟨bd, of2, none⟩) L.length cd).ownBlock = some g → b0 + 1 ≤ g ∧ g < wa.heap.size) :=
          Lib.hid ⟨fun g e => HRa.out.row.lt g e, fun x hx g e => (HRa.out.one x hx).lt g e, fun g e => ⟨by have := (HOa.out.lt g e).1; have := HB3s.out; omega, (HOa.out.lt g e).2⟩⟩
        obtain ⟨wf, gwf⟩ : ∃ z, wa.alloc (.cells #[.slice none 0 0] 40) = z := ⟨_, rfl⟩
        obtain ⟨bf, gbf⟩ : ∃ z, wa.heap.size = z := ⟨_, rfl⟩
        have Hbf : RowKit.Hid (bm < bf ∧ bt < bf ∧ b1 < bf ∧ b5 < bf ∧ b0 < bf) := Lib.hid (by
          have := HMa.out.lt; have := HTa.out.lt; have := HLa.out.lt; have := HUa.out.lt; have := HBa.out.size; have := Gb0.out; have := Gb1.out; have := Hbm.out
          omega)
        rw [gwf] at HBf HMf HTf HLf HUf HOf HRf HKf HXf HWf ⊢
        rw [gbf] at HWf Hlt ⊢
        clear gwf gbf HBa HMa HTa HLa HUa HOa HRa HKa HXa c0 c1 c2 e0
        have c0 := HXf.out.cell (i := 0) rfl
        have c1 := HXf.out.cell (i := 1) rfl
        have c2 := HXf.out.cell (i := 2) rfl
        go_wp2_with (go_at_call 66; refine (round_any bm x1 x2 x3 _).mono ?_; rintro e w' ⟨rfl, rfl⟩)
        clear c0 c1 c2
        have HMv := Lib.hid ((HMf.out.al (.cells #[.map (some bm)] 84)).al (.cells #[.int .i64 x1, .int .i64 x2, .int .i64 x3] 39))
        have HTv := Lib.hid ((HTf.out.al (.cells #[.map (some bm)] 84)).al (.cells #[.int .i64 x1, .int .i64 x2, .int .i64 x3] 39))
        have HLv := Lib.hid ((HLf.out.al (.cells #[.map (some bm)] 84)).al (.cells #[.int .i64 x1, .int .i64 x2, .int .i64 x3] 39))
        have HUv := Lib.hid ((HUf.out.al (.cells #[.map (some bm)] 84)).al (.cells #[.int .i64 x1, .int .i64 x2, .int .i64 x3] 39))
        have HRv := Lib.hid ((HRf.out.al (.cells #[.map (some bm)] 84)).al (.cells #[.int .i64 x1, .int .i64 x2, .int .i64 x3] 39))
        have HWv := Lib.hid ((HWf.out.al (.cells #[.map (some bm)] 84)).al (.cells #[.int .i64 x1, .int .i64 x2, .int .i64 x3] 39))
        have HOv := Lib.hid ((HOf.out.alloc (.cells #[.map (some bm)] 84)).alloc (.cells #[.int .i64 x1, .int .i64 x2, .int .i64 x3] 39))
        have HBv := Lib.hid (bel_al (bel_al HBf.out (.cells #[.map (some bm)] 84)) (.cells #[.int .i64 x1, .int .i64 x2, .int .i64 x3] 39))
        have HKv : RowKit.Hid (Marks ((wf.alloc (.cells #[.map (some bm)] 84)).alloc (.cells #[.int .i64 x1, .int .i64 x2, .int .i64 x3] 39)) (b0 + 1) ds) := Lib.hid (HKf.out.at_ (fun k h1 h2 => by
          have q := (Array.getElem?_eq_some_iff.1 h2).1
          exact ((Below.heap_alloc _ _ _ (by simp; omega)).trans (Below.heap_alloc _ _ _ q)).trans h2))
        have HNx := Lib.hid ((Whole.new_ wf 84 [.map (some bm)]).al (.cells #[.int .i64 x1, .int .i64 x2, .int .i64 x3] 39))
        have HXx := Lib.hid (Whole.new2 (w := wf.alloc (.cells #[.map (some bm)] 84)) (g := wf.heap.size + 1) (t := 39) (cs := [.int .i64 x1, .int .i64 x2, .int .i64 x3]) (by simp))
        have Hbl : RowKit.Hid (bf < wf.heap.size ∧ ((wf.alloc (.cells #[.map (some bm)] 84)).alloc (.cells #[.int .i64 x1, .int .i64 x2, .int .i64 x3] 39)).heap.size = wf.heap.size + 2) := Lib.hid ⟨HWf.out.lt, by simp⟩
        obtain ⟨V, gV⟩ : ∃ z, (wf.alloc (.cells #[.map (some bm)] 84)).alloc (.cells #[.int .i64 x1, .int .i64 x2, .int .i64 x3] 39) = z := ⟨_, rfl⟩
        obtain ⟨bx, gbx⟩ : ∃ z, wf.heap.size + 1 = z := ⟨_, rfl⟩
        obtain ⟨bn, gbn⟩ : ∃ z, wf.heap.size = z := ⟨_, rfl⟩
        rw [gV] at HMv HTv HLv HUv HRv HWv HOv HBv HKv HNx HXx Hbl ⊢
        rw [gbx] at HXx ⊢
        rw [gbn] at HNx Hbl gbx ⊢
        have Hbx := Lib.hid gbx
        clear gV gbx gbn HMf HTf HLf HUf HRf HWf HOf HBf HKf HXf
        obtain ⟨bl, gbl⟩ : ∃ z, V.heap.size = z := ⟨_, rfl⟩
        rw [gbl] at Hbl
        have Gbl := Lib.hid gbl
        have hNl := HK.out _ HKS.out
        have HNl := Lib.hid hNl
        refine (wpIn_wide (n := 0)).1 ?_
        have HI0 : FcI V bt bf bl T q [] V := ⟨Kept.refl _ _, ⟨none, 0, HWv.out, World.ownsRow_nil _ _ _ _⟩, ft, St, HTv.out, fun y => by rw [HTk.out y]; simp⟩
        have HA : ∀ p, AbS bl (FcI V bt bf bl T q p) := fun p => FcI.abs (by have := HTv.out.lt; omega) (by have := HWv.out.lt; omega)
        clear hNl
        refine wpIn_roundS (gf := 83) (lb := #[.pointer (some ⟨bx, 0, none⟩), .pointer (some ⟨bn, 0, none⟩)]) rfl (enters_of Try.func83 (by kernel_rfl) rfl) (encs := fun y : D2 => #[dV y.1]) (fun _ => rfl) (fun i => i = bx ∨ i = bn ∨ i = bm ∨ i = bl + 2) (by have := HNx.out.lt; have := HXx.out.lt; have := HMv.out.lt; omega)
          (fun r => round_its bx bn bm q0 (sigM Vs) S (x1, x2, x3) Hwx.out.1 (fun h => sigM_key Hs.out _ h) (sigM_some Hs.out) _ _ ⟨.inl rfl, .inr (.inl rfl), .inr (.inr (.inl rfl)), .inr (.inr (.inr (by simp [World.size_alloc, gbl])))⟩ ((HXx.out.al _).al _) ((HNx.out.al _).al _) ((HMv.out.al _).al _) (by have := HNl.out; omega))
          (FcI V bt bf bl T q) (fun p y a' W => ∃ By, bl + 3 ≤ By ∧ By < W.heap.size ∧ Whole W By 39 [.int .i64 y.1.1, .int .i64 y.1.2.1, .int .i64 y.1.2.2] ∧ a' = { tmps := #[.agg #[.slice A n c, .slice B m k], .pointer (some ⟨b0, 0, none⟩), .slice none 0 0, .pointer (some ⟨b1, 0, none⟩), .map (some bm), .pointer (some ⟨b5, 0, none⟩), undef, .pointer (some ⟨b7, 0, none⟩), fv, .bool false, .pointer (some ⟨bf, 0, none⟩), .pointer (some ⟨By, 0, none⟩), .agg #[.slice A n c, .slice B m k], .map (some bm), .map (some bt), .agg #[.slice A n c, .slice B m k], .slice (some ⟨bd, of2, none⟩) L.length cd, .int .i64 (L.length : Int), .int .i64 (i : Int), .bool true, .pointer (some ⟨bd, of2 + i * 3, none⟩), .agg #[.int .i64 x1, .int .i64 x2, .int .i64 x3], .tuple #[fv, .bool false], .map (some bt), .agg #[.int .i64 x1, .int .i64 x2, .int .i64 x3], .tuple #[fv, .bool false], fv, .bool false, .bool false, .map (some bm), .agg #[.int .i64 x1, .int .i64 x2, .int .i64 x3], .func (.func 83) #[] #[.pointer (some ⟨bx, 0, none⟩), .pointer (some ⟨bn, 0, none⟩)], dV y.1, undef, undef, undef, undef, undef, undef, undef, undef, u41, u42, u43, u44, u45, undef], defers := [] } ∧ FcI V bt bf bl T q p W)
          (fun _ _ _ => False) (by rw [gbl]; exact HA)
          (fun p y a' W W' r h hg hr1 hr2 => by rw [gbl] at hr1 hr2; obtain ⟨By, e1, e2, e3, e4, e5⟩ := h; exact ⟨By, e1, Nat.lt_of_lt_of_le e2 hg.size, e3.at_ (hg.block By e2 (fun e => by cases e; omega)), e4, HA p W W' r e5 hg hr1 hr2⟩)
          (fun _ _ _ _ _ h => h.elim) HI0 ?assign ?body ?done ?stop
        case assign =>
          rintro l' pre ⟨⟨y1, y2, y3⟩, hy⟩ W R hiP hsz3 hK
          simp only [dV]
          gi_wp2
          exact hK _ _ (KpS.grown (World.grownBy_alloc W _ none) (fun r e => by cases e)) ⟨W.heap.size, by omega, by simp, Whole.new_ _ _ _, rfl, hiP.al _⟩
        case body =>
          rintro l' pre ⟨⟨y1, y2, y3⟩, hy⟩ a' W ⟨By, hBy, hBl, hY, rfl, hk, ⟨A9, c9, hb, ho⟩, ft9, St9, hm9, hk9⟩ hlen hsz3
          have hb_1 : bf < bl := by have := Hbl.out; omega
          have hb_2 : bf < bn := Hbl.out.1
          have hb_3 : bn < bx := by have := Hbx.out; omega
          have hb_4 : bx < bl := by have := Hbx.out; have := Hbl.out; omega
          have hwfy : wfD (y1, y2, y3) := hy.1
          have hU := hk.whole HUv.out (fun h => by have := Hbf.out; have := Hb5.out; have := HUv.out.lt; omega)
          have hLw := hk.whole HLv.out (fun h => by have := Hbf.out; have := HLv.out.lt; have := Hlm.out; have := Hbm.out; omega)
          have c0 := hU.cell (i := 0) rfl
          have c1 := hLw.cell (i := 0) rfl
          have d0 := hY.cell (i := 0) rfl
          have d1 := hY.cell (i := 1) rfl
          have d2 := hY.cell (i := 2) rfl
          have hne1 : bt ≠ bf := by have := Hbf.out; omega
          have hqq : q + pre.length < maxLen := by have := Hq.out; have := Hdl.out; have := HNl.out; unfold maxLen; omega
          have hpl : pre.length < 1000000 := by have := HNl.out; omega
          have hbt := Hbf.out.2.1
          clear hwfy
          have hwfy := Lib.hid hy.1
          simp only [dV]
          gi_wp2_with (first
            | (gi_at_mapUpdate
               refine wlIn_dPut rfl _ _ _ rfl rfl hm9 Try.underlying86 hqq hwfy.out rfl rfl ?_
               intro w1 hm1 hg1
               have hb1 := hb.grown hg1 (fun e => by have := Option.some.inj e; omega)
               have hY1 := hY.grown hg1 (fun e => by have := Option.some.inj e; omega)
               have ho1 := ho.kept hg1 (.inr (fun e => by have := (ho.lt _ e).1; omega))
               have k0 := hb1.cell (i := 0) rfl
               have z0 := hY1.cell (i := 0) rfl
               have z1 := hY1.cell (i := 1) rfl
               have z2 := hY1.cell (i := 2) rfl
               have hb2 := hb1.al (.cells #[.int .i64 y1, .int .i64 y2, .int .i64 y3] 39)
               have ho2 := ho1.alloc (.cells #[.int .i64 y1, .int .i64 y2, .int .i64 y3] 39)
               have hne := own_ne ho2 hb2 (by decide)
               have hsz1 := hg1.size)
            | (gi_at_builtin
               refine wpListIn_append_own _ rfl _ _ 40 rfl (bl + 3) 39 i0 _ 3 24 Try.underlying40 hi0 hz0 hz1 hz2 rfl (by decide) _ _ _ rfl ho2 ⟨w1.heap.size, 0, none⟩ 1 1 [.int .i64 y1, .int .i64 y2, .int .i64 y3] rfl rfl (newC w1 y1 y2 y3) (by simp [Value.oneCell']) (by unfold maxLen; omega) (by omega) (by simp; omega) ?_
               intro v' w2 hown' hgrow _
               obtain ⟨g', cap', rfl⟩ := ownsRow_succ hown'
               have n1 := (hb2.grown hgrow hne).cell (i := 0) rfl
               have f1 := (hb2.grown hgrow hne).free 0))
          have hb_5 : bm < bt := Hlm.out
          have hl1 : (pre ++ [(⟨(y1, y2, y3), hy⟩ : D2)]).length = pre.length + 1 := by simp
          have hl2 : dartsV ((pre ++ [(⟨(y1, y2, y3), hy⟩ : D2)]).map (·.1)) = dartsV (pre.map (·.1)) ++ [.int .i64 y1, .int .i64 y2, .int .i64 y3] := by rw [List.map_append, dartsV_app]; rfl
          have hlt2 := hown'.lt g' rfl
          have hrow : ∀ r, (Value.slice A9 pre.length c9).ownBlock = some r → bl + 3 ≤ r := fun r e => (ho2.lt r e).1
          refine ⟨(KpS.grown hg1 (fun r e q => by cases e; omega)).trans ((KpS.grown (World.grownBy_alloc w1 _ none) (fun r e => by cases e)).trans ((KpS.grown hgrow (fun r e q => by have := hrow r e; omega)).trans (KpS.grown (grownBy_setCell' _ _ _) (fun r e q => by cases e; omega)))), ?_⟩
          refine ⟨(((hk.gr hg1 (fun k e => by cases e; exact .inl rfl)).trans (Kept.of_below (below1 w1 _))).gr hgrow (fun k e => .inr (.inr (by have := hrow k e; omega)))).gr (grownBy_setCell' _ _ _) (fun k e => by cases e; exact .inr (.inl rfl)), ⟨some ⟨g', 0, none⟩, cap', ?_, ?_⟩, _, _, ((((hm1.mono (by rw [hl1]; omega)).al _).grown hgrow (fun e => by have := hrow bt e.symm; omega)).grown (grownBy_setCell' _ _ _) (fun e => by have := Option.some.inj e; omega)), fun y => ?_⟩
          · rw [hl1]
            exact (hb2.grown hgrow hne).set_ 0 _
          · rw [hl1, hl2]
            exact hown'.kept (grownBy_setCell' _ _ _) (.inr (fun e => by have e2 : g' = bf := Option.some.inj e; omega))
          · have h9 := hk9 y
            rw [List.map_append, List.mem_append]
            by_cases e : y = (y1, y2, y3)
            · subst e
              simp
            · rw [if_neg e, h9]
              have e2 : ¬ y ∈ [(⟨(y1, y2, y3), hy⟩ : D2)].map (·.1) := fun q => e (List.mem_singleton.1 q)
              simp only [e2, or_false]
        case done =>
          rintro ys W hS ⟨hk, ⟨A9, c9, hb, ho⟩, ft9, St9, hm9, hk9⟩ hKd
          rw [gbl] at hKd ⊢
          have hb_1 : bf < bl := by have := Hbl.out; omega
          have hb_2 : bm < bt := Hlm.out
          have hb_3 := Hbf.out
          have hb_4 := Gb0.out
          have hb_5 := Gb1.out
          have hb_6 : b1 < bm := Hbm.out
          have hlf : ys.length = (faceL (sigM Vs) S.length (x1, x2, x3)).length := by rw [← hS, List.length_map]
          have hnl : ys.length ≤ 1000000 := by have := faceL_len (sigM Vs) S.length (x1, x2, x3); have := HNl.out; omega
          rw [hS] at ho
          simp only [hS] at hk9
          have hFy := HFx.out
          rw [facesF, if_neg hxT] at hFy
          obtain ⟨Fx, gFx⟩ : ∃ z, faceL (sigM Vs) S.length (x1, x2, x3) = z := ⟨_, rfl⟩
          rw [gFx] at hlf ho hk9 hFy
          rw [hlf] at hb ho hm9 hnl
          have HBw : RowKit.Hid (Below w.heap.size w W) := Lib.hid (HBv.out.trans (hk.below HBv.out.size (fun k h q => by omega)))
          have HMw : RowKit.Hid (MapD W bm q0 (opV (sigM Vs)) S) := Lib.hid (HMv.out.kept hk (fun q => by omega))
          have HLw : RowKit.Hid (Whole W b1 65 [.slice Al l cl]) := Lib.hid (hk.whole HLv.out (fun h => by omega))
          have HUw : RowKit.Hid (Whole W b5 86 [.map (some bt)]) := Lib.hid (hk.whole HUv.out (fun h => by have := Hb5.out; omega))
          have HOw : RowKit.Hid (W.ownsRow (W3.heap.size + 1) 39 3 (.slice (some ⟨bd, of2, none⟩) L.length cd) L.length (dartsV L)) := Lib.hid (own_kept2 HOv.out hk HTv.out (fun g e => (Hlt.out.2.2 g e).2) hb_1)
          have HRw : RowKit.Hid (RowsIn W (b0 + 1) 40 39 3 encD Al l cl X) := Lib.hid ⟨own_kept2 HRv.out.row hk HTv.out (fun g e => (Hlt.out.1 g e).2) hb_1, HRv.out.len, fun x hx => own_kept2 (HRv.out.one x hx) hk HTv.out (fun g e => (Hlt.out.2.1 x hx g e).2) hb_1, HRv.out.ne⟩
          have HKw : RowKit.Hid (Marks W (b0 + 1) ({ target := .collected bl, args := #[] } :: ds)) := Lib.hid ((HKv.out.at_ (fun k h1 h2 => (hk.block k (Array.getElem?_eq_some_iff.1 h2).1 (fun q => by
              rcases q with q | q | q
              · obtain ⟨D, ⟨es, clock, h3, _⟩, _⟩ := HTv.out
                rw [q, h3] at h2; cases h2
              · have h3 : V.heap[bf]? = _ := HWv.out
                rw [q, h3] at h2; cases h2
              · have := (Array.getElem?_eq_some_iff.1 h2).1; omega)).trans h2)).push (by omega) hKd (fun e he q => by
              obtain ⟨k, e1, e2⟩ := HKv.out.lt e he
              rw [e1] at q
              injection q with q1
              injection q1 with q1
              omega))
          have HTw : RowKit.Hid (MapD W bt (q + Fx.length) ft9 St9) := Lib.hid hm9
          have HFw : RowKit.Hid (Whole W bf 40 [.slice A9 Fx.length c9]) := Lib.hid hb
          have HXw : RowKit.Hid (W.ownsRow (bl + 3) 39 3 (.slice A9 Fx.length c9) Fx.length (dartsV Fx)) := Lib.hid ho
          have HKeys : RowKit.Hid (∀ y, (ft9 y).isSome = true ↔ y ∈ T ++ Fx) := Lib.hid (fun y => by rw [hk9 y, List.mem_append])
          have HFz := Lib.hid hFy
          have Hnl := Lib.hid hnl
          clear hk hb ho hm9 hk9 hKd hFy hnl hlf hS gFx HBv HMv HTv HLv HUv HOv HRv HKv HWv HNx HXx HI0 HA
          have c0 := HLw.out.cell (i := 0) rfl
          have c1 := HFw.out.cell (i := 0) rfl
          go_upto_region 14 with fail
          clear hb_3 hb_4 hb_5
          refine wp_region_lit ?_
          refine wl_read (v := ?_) (some 41) rfl (by rfl) ?_ ?_
          rotate_left
          · go_simp; (try with_reducible rfl)
          simp only [Act.put, List.setIfInBounds_toArray, List.set_cons_zero, List.set_cons_succ]
          refine wl_read (v := ?_) (some 42) rfl (by rfl) ?_ ?_
          rotate_left
          · go_simp; (try with_reducible rfl)
          simp only [Act.put, List.setIfInBounds_toArray, List.set_cons_zero, List.set_cons_succ]
          refine wl_buildSlice (some 43) rfl (by rfl) 65 40 1 #[(0, .tmp 42)] (by rfl) Try.underlying65 #[.slice A9 Fx.length c9] (by kernel_rfl) ?_
          simp only [Act.put, List.setIfInBounds_toArray, List.set_cons_zero, List.set_cons_succ]
          clear c0 c1
          obtain ⟨A7, c7, W6, hrun, hR6, hb6, hg6⟩ := (HRw.out.al (.cells #[.slice A9 Fx.length c9] 40)).push (P := Try.prog) ((A9, c9, Fx) : Rw D) (by have := own_base HXw.out (show b0 + 1 ≤ bl + 3 by have := Hbl.out; have := Hbf.out; omega); rw [← rowsD] at this; exact this.alloc _)
            (fun y hy a b e1 e2 => by
              have q1 := (Hlt.out.2.1 y hy a.block (by rw [rw_block, e1]; rfl)).2
              have q2 := (HXw.out.lt b.block (by rw [show A9 = some b from e2]; rfl)).1
              omega)
            65 65 iR _ Try.underlying65 hiR hr0 hr1 hr2 rfl (by decide) (by have := Hl.out; have := Hdl.out; omega) (by have := HBw.out.size; have := Gb0.out; simp; omega) (some ⟨W.heap.size, 0, none⟩) 1 (RdS.of_whole (Whole.new2 rfl) rfl)
          refine wl_run (some 44) rfl (by rfl) (exec_append (by rfl) (by rfl) (by rfl) hrun) ?_
          simp only [Act.put, List.setIfInBounds_toArray, List.set_cons_zero, List.set_cons_succ]
          have n1 := own_ne (HRw.out.row.alloc (.cells #[.slice A9 Fx.length c9] 40)) (HLw.out.al (.cells #[.slice A9 Fx.length c9] 40)) (by decide)
          have n5 := own_ne (HRw.out.row.alloc (.cells #[.slice A9 Fx.length c9] 40)) (HUw.out.al (.cells #[.slice A9 Fx.length c9] 40)) (by decide)
          have hrow : ∀ g, (Value.slice Al l cl).ownBlock = some g → ∃ cs, (W.alloc (.cells #[.slice A9 Fx.length c9] 40)).heap[g]? = some (.cells cs 40 (0, 0)) := fun g hg => own_cells (HRw.out.row.alloc _) hg
          have HB6 : RowKit.Hid (Below w.heap.size w W6) := Lib.hid ((bel_al HBw.out (.cells #[.slice A9 Fx.length c9] 40)).grown hg6 (by have := HBw.out.size; simp; omega) (fun k e => by have := (Hlt.out.1 k e).1; have := Gb0.out; omega))
          have HM6 := Lib.hid ((HMw.out.al (.cells #[.slice A9 Fx.length c9] 40)).grown hg6 (fun e => by obtain ⟨cs, hc⟩ := hrow bm e.symm; exact (HMw.out.al _).notcells hc))
          have HT6 := Lib.hid ((HTw.out.al (.cells #[.slice A9 Fx.length c9] 40)).grown hg6 (fun e => by obtain ⟨cs, hc⟩ := hrow bt e.symm; exact (HTw.out.al _).notcells hc))
          have HL6 := Lib.hid ((HLw.out.al (.cells #[.slice A9 Fx.length c9] 40)).grown hg6 n1)
          have HU6 := Lib.hid ((HUw.out.al (.cells #[.slice A9 Fx.length c9] 40)).grown hg6 n5)
          have HO6 := Lib.hid ((HOw.out.alloc (.cells #[.slice A9 Fx.length c9] 40)).kept hg6 (.inr (fun e => own_two HRw.out.row HOw.out (by decide) e.symm rfl)))
          have HK6 : RowKit.Hid (Marks W6 (b0 + 1) ({ target := .collected bl, args := #[] } :: ds)) := Lib.hid (HKw.out.at_ (fun k h1 h2 => by
            have h3 : (W.alloc (.cells #[.slice A9 Fx.length c9] 40)).heap[k]? = some (.deferred (some [])) := (Below.heap_alloc _ _ _ (Array.getElem?_eq_some_iff.1 h2).1).trans h2
            refine (hg6.block k (Array.getElem?_eq_some_iff.1 h3).1 (fun e => ?_)).trans h3
            obtain ⟨cs, hc⟩ := hrow k e.symm
            rw [hc] at h3
            cases h3))
          have HR6 := Lib.hid hR6
          clear hrun hR6 hb6 hg6 n1 n5 hrow HBw HMw HTw HLw HUw HOw HRw HKw HFw HXw
          have c1 := HL6.out.cell (i := 0) rfl
          have f1 := HL6.out.free 0
          have e1 : RowKit.Hid (b1 ≠ b5) := Lib.hid (by have := Hb5.out; have := Hlm.out; have := Hbm.out; omega)
          have Hb1 : RowKit.Hid (w.heap.size ≤ b1) := Lib.hid (by have := Gb1.out; omega)
          have HB7 := Lib.hid (HB6.out.setCell (p := ⟨b1, 0, none⟩) Hb1.out (.slice A7 (l + 1) c7))
          have HM7 := Lib.hid (HM6.out.grown (grownBy_setCell' _ b1 (.slice A7 (l + 1) c7)) (fun e => by have := Option.some.inj e; have := Hbm.out; omega))
          have HT7 := Lib.hid (HT6.out.grown (grownBy_setCell' _ b1 (.slice A7 (l + 1) c7)) (fun e => by have := Option.some.inj e; have := Hbm.out; have := Hlm.out; omega))
          have HL7 := Lib.hid (HL6.out.set_ 0 (.slice A7 (l + 1) c7))
          have HU7 := Lib.hid (HU6.out.grown (grownBy_setCell' _ b1 (.slice A7 (l + 1) c7)) (fun e => e1.out (Option.some.inj e).symm))
          have HO7 := Lib.hid (HO6.out.kept (grownBy_setCell' _ b1 (.slice A7 (l + 1) c7)) (.inr (fun e => own_ne HO6.out HL6.out (by decide) e.symm)))
          have HR7 := Lib.hid (HR6.out.far (grownBy_setCell' _ b1 (.slice A7 (l + 1) c7)) (fun g e q => own_ne HR6.out.row HL6.out (by decide) (by rw [q, ← e])) (fun y hy g e q => own_ne (HR6.out.one y hy) HL6.out (by decide) (by rw [show (Value.slice y.1 y.2.2.length y.2.1).ownBlock = _ from q, ← e])))
          have HK7 := Lib.hid (HK6.out.at_ (W' := W6.setCell ⟨b1, 0, none⟩ (.slice A7 (l + 1) c7)) (fun k h1 h2 => ((grownBy_setCell' W6 b1 (.slice A7 (l + 1) c7)).block k (Array.getElem?_eq_some_iff.1 h2).1 (fun e => by
            have h3 : W6.heap[b1]? = _ := HL6.out
            rw [Option.some.inj e, h3] at h2
            cases h2)).trans h2))
          clear HB6 HM6 HT6 HL6 HU6 HO6 HR6 HK6
          go_wp2
          have hw2 : wrap64 ((i : Int) + 1) = ((i + 1 : Nat) : Int) := by
            have := Hdl.out
            unfold wrap64
            omega
          have HQ9 : RowKit.Hid (q + Fx.length ≤ (i + 1) * 1000000) := Lib.hid (by
            have h1 := Hq.out
            have h2 := Hnl.out
            generalize (1000000 : Nat) = M at h1 h2 ⊢
            rw [Nat.add_mul, Nat.one_mul]
            exact Nat.add_le_add h1 h2)
          rw [hw2]
          refine ⟨⟨_, _, _, _, _, _, _, _, _, _, _, _, _, _, _, _, _, _, _, _, _, _, i + 1, q + Fx.length, l + 1, c7, A7, ft9, St9, T ++ Fx, X ++ [((A9, c9, Fx) : Rw D)], _ :: ds, ?_, rfl, ?_, ?_, ?_, ?_, ?_, ?_, ?_, ?_, ?_⟩, ?_⟩
          · exact hin
          · exact HB7
          · exact HM7
          · exact Lib.hid ⟨HT7.out, HQ9.out, HKeys.out⟩
          · exact HL7
          · exact HU7
          · exact HO7
          · exact Lib.hid ⟨HR7.out, Nat.succ_le_succ Hl.out⟩
          · exact Lib.hid (by rw [HFz.out, List.map_append, List.append_assoc]; rfl)
          · exact HK7
          · simp [intOf]
            first | done | exact hin | exact Nat.sub_lt_sub_left hin (Nat.lt_succ_self i)
        case stop =>
          rintro c' pre W _ h _
          exact h.elim
    · obtain rfl : L.length = i := by omega
      have c0 := HL.out.cell (i := 0) rfl
      go_wp2
      have hFl := HF.out
      rw [List.drop_length] at hFl
      have hrow := HR.out.1
      have hlen : X.length = l := hrow.len
      refine leaves_marks (V := wr) (lo := b0 + 1) (fun W' hS => ?_) ds wr (Shut.refl _ _) HMk.out
      refine ⟨_, results_tmp rfl _ _ _, S, Al, cl, X, HKS.out, by rw [hlen]; rfl, ?_, ?_, ?_⟩
      · rw [hlen, Gb0.out]
        exact hrow.at_ (fun g cs t fr _ hg _ => (hS.block g _ hg (.inr rfl)).trans hg.symm)
      · rw [HGL.out, hFl]
        simp [facesF]
      · exact HB.out.trans (hS.below (by have := Gb0.out; omega))
end Go.Proofs.Ytpindjknngcccaa
