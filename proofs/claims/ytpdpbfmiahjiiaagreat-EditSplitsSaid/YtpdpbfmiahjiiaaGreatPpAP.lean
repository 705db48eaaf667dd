/- Several texts in one. -/
import Derived.Test.YtpdpbfmiahjiiaaGreatPpAB
import Derived.Test.YtpdpbfmiahjiiaaGreatPpAO
set_option linter.unusedSectionVars false
set_option linter.unusedSimpArgs false
set_option linter.unusedVariables false
set_option maxRecDepth 100000
set_option maxHeartbeats 16000000
namespace Go.Proofs.YtpdpbfmiahjiiaaGreat
open Go.RowKit
open _root_.Go.Obj renaming cells→δ
open _root_.Option renaming none→ε,some→ζ
open _root_.Go.Proofs.Tryz renaming prog→η
open _root_.Go.Act renaming put→ξ
open _root_.Bool renaming false→ρ,true→τ
open _root_.Go.RowKit renaming Below→σ
open _root_.Go.Value renaming pointer→υ,agg→φ
open _root_.Go renaming Calls→Ζ,Addr→Κ
open _root_.List renaming length_map→Ρ
open _root_.ByteArray renaming empty→Jaf
open _root_.Int renaming tdiv_eq_ediv_of_nonneg→Jbp
theorem JK (A:Option Κ) (n c:Nat) (L:List D) (w:World) (h:aX w w.heap.size 3 A n c (aA L)) (hn:n≤1000000):
 Ζ η 128 #[.slice A n c] w (pC w (aS L)):=by
 have HT:=qh (fun W g t hg hr=>DK A n c L W g t hg hr hn);have H:=qh h;clear h;go_enter Tryz.func128,Tryz.ntmps128;go_wp2_with (go_at_call 153;refine(HT.out _ _ _ (by exact Whole.new_ w _ _) (by exact H.out.up (ax _ _) (by simp))).mono ?_;rintro e w2 ⟨A2,c2,rfl,yS,ar⟩)
 go_ret;exact⟨A2,c2,rfl,yS,aT ar⟩
theorem Of {w W W':World} {lo g:Nat} {A:Option Κ} {n c:Nat} {Vs:List VC} {B:Option Κ} {m k:Nat} {Es:List EC} {C:Option Κ} {r rc:Nat} {G:List Gn} {A':Option Κ} {n' c':Nat} {Tm:List VC} {B':Option Κ} {m' k':Nat} {Zt:List EC} {C':Option Κ} {r' rE:Nat} {G':List Gn}
 (h:dK w lo g A n c Vs B m k Es C r rc G W) (h':dK w lo g A' n' c' Tm B' m' k' Zt C' r' rE G' W') (hk:aY g W W') (S:Nat→Prop) (hP:∀b,¬S b→∃cs,Whole W b 32 cs∨Whole W b 36 cs):Kept S W W':=
 ⟨h'.below.os.trans h.below.os.symm,h'.below.tape.trans h.below.tape.symm,h'.below.output.trans h.below.output.symm,hk.s,fun b _ hb=>by
  obtain⟨cs,hw|hw⟩:=hP b hb
  ·exact(hk.box hw h.s).trans hw.symm
  ·exact(hk.box hw h.s).trans hw.symm⟩
theorem KA {Vs Us:List VC} {F:List D→List D} (e:Us.map vS=rings (Vs.map vS) F) (h:pW (fun v:VS=>v.1) (Vs.map vS)):pW (fun v:VC=>v.1) Us:=by
 rw[←Jm,e];exact nR h (xb _ _)
theorem K8 {Vs Us:List VC} {F:List D→List D} (e:Us.map vS=rings (Vs.map vS) F) (x:Nm):bo (Us.map vS) x=bo (Vs.map vS) x:=by
 have h:∀U:List VS,bo U x=(U.map (·.1)).any (fun k=>decide (k=x)):=fun U=>by
  unfold bo qg;rw[List.any_map];rfl
 rw[h,h,e,xb]
section
variable {w W:World} {lo g:Nat} {A:Option Κ} {n c:Nat} {Vs:List VC} {B:Option Κ} {m k:Nat} {Es:List EC} {C:Option Κ} {r rc:Nat} {G:List Gn}
theorem To (h:dK w lo g A n c Vs B m k Es C r rc G W) (hS:fA (Vs.map vS,Es,G)) (o:cZ) (h1:bN Es (bp o)=ρ):Ζ η 94 #[υ (ζ ⟨g,0,ε⟩),φ (aa o).toArray] W (fX w W lo g (cx (Vs.map vS,Es,G) (bp o) (mV o) (cQ o) o.m)):=by
 obtain⟨hn,hm,hr,pd⟩:=hS.n24 h;have nQ:(Vs.map vS).length=n:=by rw[Ρ];exact h.vlen
 have nJ:Es.length=m:=h.elen;have tU:Hid (∀X,dK w lo g A n c Vs B m k Es C r rc G X→Ζ η 113 #[υ (ζ ⟨g,0,ε⟩),φ #[J o.s,J o.n]] X fun e w'=>e=.returned (J (gi (fun v:EC=>v.1) Es (bp o)))∧σ X.heap.size X w'):=qh (fun X hX=>iz g A n c B m k C r rc o.s o.n Es X hX.s (aJ hX.e) (by omega));have HV:Hid (∀X,dK w lo g A n c Vs B m k Es C r rc G X→Ζ η 110 #[υ (ζ ⟨g,0,ε⟩),φ #[J o.s1,J o.n1]] X fun e w'=>e=.returned (J (gi (fun v:VC=>v.1) Vs (mV o)))∧σ X.heap.size X w'):=qh (fun X hX=>j7 g A n c B m k C r rc o.s1 o.n1 Vs X hX.s (aJ hX.v) (by omega));have pQ:Hid (∀X,dK w lo g A n c Vs B m k Es C r rc G X→Ζ η 113 #[υ (ζ ⟨g,0,ε⟩),φ #[J o.s2,J o.n2]] X fun e w'=>e=.returned (J (gi (fun v:EC=>v.1) Es (cQ o)))∧σ X.heap.size X w'):=qh (fun X hX=>iz g A n c B m k C r rc o.s2 o.n2 Es X hX.s (aJ hX.e) (by omega));have HR:Hid (cx (Vs.map vS,Es,G) (bp o) (mV o) (cQ o) o.m=(cp,13)):=qh (by unfold cx;rw[if_pos h1]);have e1:=iA (k:=fun v:EC=>v.1) (l:=Es) h1;rw[e1] at tU;clear e1;clear hS pd nQ nJ;have H:=qh h;clear h;go_enter Tryz.func94,Tryz.ntmps94;go_upto_region 1 with fail
 obtain⟨W1,aO⟩:=ay (W.alloc (δ (aa o).toArray 36));have aI:Hid (Whole W1 W.heap.size 36 (aa o)):=qh (by rw[←aO];exact Whole.new_ _ _ _);have jq:Hid (dK w lo g A n c Vs B m k Es C r rc G W1):=qh (by rw[←aO];exact H.out.al _);have eA:Hid (σ W.heap.size W W1):=qh (by rw[←aO];exact ax _ _);rw[aO];clear aO H;have Nb:Hid (W.heap.size≠g):=qh (aI.out.ne_ jq.out.s (by decide));obtain⟨b0,bK⟩:=ay W.heap.size;rw[bK] at aI Nb ⊢;clear bK;have lT:=aI.out.cell (i:=1) rfl;have mc:=aI.out.cell (i:=2) rfl
 go_wp2_with (first
  |(go_at_call 113
    refine(tU.out _ jq.out).mono ?_
    rintro e w2 ⟨rfl,ar⟩;have iF:=qh (jq.out.bl ar);have aV:=qh (aI.out.bl ar);have bX:=qh (af eA.out ar);clear ar jq aI eA lT mc;have nu:=aV.out.cell (i:=1) rfl;have ns:=aV.out.cell (i:=2) rfl;have rp:=aV.out.cell (i:=3) rfl;have rm:=aV.out.cell (i:=4) rfl;have nC:=aV.out.cell (i:=5) rfl;have nP:=aV.out.cell (i:=6) rfl;have mR:=aV.out.cell (i:=19) rfl;have s0:=iF.out.s.cell (i:=0) rfl;have s1:=iF.out.s.cell (i:=1) rfl))
 go_ret;exact fX.no HR.out (by decide) rfl iF.out.below (aY.of_below bX.out)
theorem Uj (h:dK w lo g A n c Vs B m k Es C r rc G W) (hS:fA (Vs.map vS,Es,G)) (o:cZ) (h1:bN Es (bp o)=τ) (h2:bo (Vs.map vS) (mV o)=τ):Ζ η 94 #[υ (ζ ⟨g,0,ε⟩),φ (aa o).toArray] W (fX w W lo g (cx (Vs.map vS,Es,G) (bp o) (mV o) (cQ o) o.m)):=by
 obtain⟨hn,hm,hr,pd⟩:=hS.n24 h;have nQ:(Vs.map vS).length=n:=by rw[Ρ];exact h.vlen
 have nJ:Es.length=m:=h.elen;have tU:Hid (∀X,dK w lo g A n c Vs B m k Es C r rc G X→Ζ η 113 #[υ (ζ ⟨g,0,ε⟩),φ #[J o.s,J o.n]] X fun e w'=>e=.returned (J (gi (fun v:EC=>v.1) Es (bp o)))∧σ X.heap.size X w'):=qh (fun X hX=>iz g A n c B m k C r rc o.s o.n Es X hX.s (aJ hX.e) (by omega));have HV:Hid (∀X,dK w lo g A n c Vs B m k Es C r rc G X→Ζ η 110 #[υ (ζ ⟨g,0,ε⟩),φ #[J o.s1,J o.n1]] X fun e w'=>e=.returned (J (gi (fun v:VC=>v.1) Vs (mV o)))∧σ X.heap.size X w'):=qh (fun X hX=>j7 g A n c B m k C r rc o.s1 o.n1 Vs X hX.s (aJ hX.v) (by omega));have pQ:Hid (∀X,dK w lo g A n c Vs B m k Es C r rc G X→Ζ η 113 #[υ (ζ ⟨g,0,ε⟩),φ #[J o.s2,J o.n2]] X fun e w'=>e=.returned (J (gi (fun v:EC=>v.1) Es (cQ o)))∧σ X.heap.size X w'):=qh (fun X hX=>iz g A n c B m k C r rc o.s2 o.n2 Es X hX.s (aJ hX.e) (by omega));have HR:Hid (cx (Vs.map vS,Es,G) (bp o) (mV o) (cQ o) o.m=(cp,12)):=qh (by unfold cx;rw[if_neg (by rw[h1];decide),if_pos (.inl h2)]);obtain⟨i1,v1,e1,-,-,-⟩:=ij (k:=fun v:EC=>v.1) (l:=Es) h1;rw[e1] at tU;clear e1;obtain⟨i2,v2,e2,-,-,-⟩:=ij (k:=fun v:VC=>v.1) (l:=Vs) ((fe Vs _).trans h2);rw[e2] at HV;clear e2;clear hS pd nQ nJ;have H:=qh h;clear h;go_enter Tryz.func94,Tryz.ntmps94;go_upto_region 1 with fail
 obtain⟨W1,aO⟩:=ay (W.alloc (δ (aa o).toArray 36));have aI:Hid (Whole W1 W.heap.size 36 (aa o)):=qh (by rw[←aO];exact Whole.new_ _ _ _);have jq:Hid (dK w lo g A n c Vs B m k Es C r rc G W1):=qh (by rw[←aO];exact H.out.al _);have eA:Hid (σ W.heap.size W W1):=qh (by rw[←aO];exact ax _ _);rw[aO];clear aO H;have Nb:Hid (W.heap.size≠g):=qh (aI.out.ne_ jq.out.s (by decide));obtain⟨b0,bK⟩:=ay W.heap.size;rw[bK] at aI Nb ⊢;clear bK;have lT:=aI.out.cell (i:=1) rfl;have mc:=aI.out.cell (i:=2) rfl
 go_wp2_with (first
  |(go_at_call 113
    refine(tU.out _ jq.out).mono ?_
    rintro e w2 ⟨rfl,ar⟩;have iF:=qh (jq.out.bl ar);have aV:=qh (aI.out.bl ar);have bX:=qh (af eA.out ar);clear ar jq aI eA lT mc;have nu:=aV.out.cell (i:=1) rfl;have ns:=aV.out.cell (i:=2) rfl;have rp:=aV.out.cell (i:=3) rfl;have rm:=aV.out.cell (i:=4) rfl;have nC:=aV.out.cell (i:=5) rfl;have nP:=aV.out.cell (i:=6) rfl;have mR:=aV.out.cell (i:=19) rfl;have s0:=iF.out.s.cell (i:=0) rfl;have s1:=iF.out.s.cell (i:=1) rfl)
  |(go_at_call 110
    refine(HV.out _ iF.out).mono ?_
    rintro e w3 ⟨rfl,bC⟩;have kz:=qh (iF.out.bl bC);have dp:=qh (aV.out.bl bC);have cI:=qh (af bX.out bC);clear bC iF aV bX nu ns rp rm nC nP mR s0 s1;have u9:=dp.out.cell (i:=1) rfl;have uT:=dp.out.cell (i:=2) rfl;have vq:=dp.out.cell (i:=3) rfl;have uG:=dp.out.cell (i:=4) rfl;have uR:=dp.out.cell (i:=5) rfl;have uW:=dp.out.cell (i:=6) rfl;have qj:=dp.out.cell (i:=19) rfl;have s0:=kz.out.s.cell (i:=0) rfl;have s1:=kz.out.s.cell (i:=1) rfl))
 go_ret;exact fX.no HR.out (by decide) rfl kz.out.below (aY.of_below cI.out)
theorem U3 (h:dK w lo g A n c Vs B m k Es C r rc G W) (hS:fA (Vs.map vS,Es,G)) (o:cZ) (h1:bN Es (bp o)=τ) (h2:bo (Vs.map vS) (mV o)=ρ) (h3:bN Es (cQ o)=τ):Ζ η 94 #[υ (ζ ⟨g,0,ε⟩),φ (aa o).toArray] W (fX w W lo g (cx (Vs.map vS,Es,G) (bp o) (mV o) (cQ o) o.m)):=by
 obtain⟨hn,hm,hr,pd⟩:=hS.n24 h;have nQ:(Vs.map vS).length=n:=by rw[Ρ];exact h.vlen
 have nJ:Es.length=m:=h.elen;have tU:Hid (∀X,dK w lo g A n c Vs B m k Es C r rc G X→Ζ η 113 #[υ (ζ ⟨g,0,ε⟩),φ #[J o.s,J o.n]] X fun e w'=>e=.returned (J (gi (fun v:EC=>v.1) Es (bp o)))∧σ X.heap.size X w'):=qh (fun X hX=>iz g A n c B m k C r rc o.s o.n Es X hX.s (aJ hX.e) (by omega));have HV:Hid (∀X,dK w lo g A n c Vs B m k Es C r rc G X→Ζ η 110 #[υ (ζ ⟨g,0,ε⟩),φ #[J o.s1,J o.n1]] X fun e w'=>e=.returned (J (gi (fun v:VC=>v.1) Vs (mV o)))∧σ X.heap.size X w'):=qh (fun X hX=>j7 g A n c B m k C r rc o.s1 o.n1 Vs X hX.s (aJ hX.v) (by omega));have pQ:Hid (∀X,dK w lo g A n c Vs B m k Es C r rc G X→Ζ η 113 #[υ (ζ ⟨g,0,ε⟩),φ #[J o.s2,J o.n2]] X fun e w'=>e=.returned (J (gi (fun v:EC=>v.1) Es (cQ o)))∧σ X.heap.size X w'):=qh (fun X hX=>iz g A n c B m k C r rc o.s2 o.n2 Es X hX.s (aJ hX.e) (by omega));have HR:Hid (cx (Vs.map vS,Es,G) (bp o) (mV o) (cQ o) o.m=(cp,12)):=qh (by unfold cx;rw[if_neg (by rw[h1];decide),if_pos (.inr h3)]);obtain⟨i1,v1,e1,-,-,-⟩:=ij (k:=fun v:EC=>v.1) (l:=Es) h1;rw[e1] at tU;clear e1;have e2:=iA (k:=fun v:VC=>v.1) (l:=Vs) ((fe Vs _).trans h2);rw[e2] at HV;clear e2;obtain⟨i3,v3,e3,-,-,-⟩:=ij (k:=fun v:EC=>v.1) (l:=Es) h3;rw[e3] at pQ;clear e3;clear hS pd nQ nJ;have H:=qh h;clear h;go_enter Tryz.func94,Tryz.ntmps94
 go_upto_region 1 with fail
 obtain⟨W1,aO⟩:=ay (W.alloc (δ (aa o).toArray 36));have aI:Hid (Whole W1 W.heap.size 36 (aa o)):=qh (by rw[←aO];exact Whole.new_ _ _ _);have jq:Hid (dK w lo g A n c Vs B m k Es C r rc G W1):=qh (by rw[←aO];exact H.out.al _);have eA:Hid (σ W.heap.size W W1):=qh (by rw[←aO];exact ax _ _);rw[aO];clear aO H;have Nb:Hid (W.heap.size≠g):=qh (aI.out.ne_ jq.out.s (by decide));obtain⟨b0,bK⟩:=ay W.heap.size;rw[bK] at aI Nb ⊢;clear bK;have lT:=aI.out.cell (i:=1) rfl;have mc:=aI.out.cell (i:=2) rfl
 go_wp2_with (first
  |(go_at_call 113
    refine(tU.out _ jq.out).mono ?_
    rintro e w2 ⟨rfl,ar⟩;have iF:=qh (jq.out.bl ar);have aV:=qh (aI.out.bl ar);have bX:=qh (af eA.out ar);clear ar jq aI eA lT mc;have nu:=aV.out.cell (i:=1) rfl;have ns:=aV.out.cell (i:=2) rfl;have rp:=aV.out.cell (i:=3) rfl;have rm:=aV.out.cell (i:=4) rfl;have nC:=aV.out.cell (i:=5) rfl;have nP:=aV.out.cell (i:=6) rfl;have mR:=aV.out.cell (i:=19) rfl;have s0:=iF.out.s.cell (i:=0) rfl;have s1:=iF.out.s.cell (i:=1) rfl)
  |(go_at_call 110
    refine(HV.out _ iF.out).mono ?_
    rintro e w3 ⟨rfl,bC⟩;have kz:=qh (iF.out.bl bC);have dp:=qh (aV.out.bl bC);have cI:=qh (af bX.out bC);clear bC iF aV bX nu ns rp rm nC nP mR s0 s1;have u9:=dp.out.cell (i:=1) rfl;have uT:=dp.out.cell (i:=2) rfl;have vq:=dp.out.cell (i:=3) rfl;have uG:=dp.out.cell (i:=4) rfl;have uR:=dp.out.cell (i:=5) rfl;have uW:=dp.out.cell (i:=6) rfl;have qj:=dp.out.cell (i:=19) rfl;have s0:=kz.out.s.cell (i:=0) rfl;have s1:=kz.out.s.cell (i:=1) rfl)
  |(go_at_call 113
    refine(pQ.out _ kz.out).mono ?_
    rintro e w4 ⟨rfl,kv⟩;have kZ:=qh (kz.out.bl kv);have gS:=qh (dp.out.bl kv);have gW:=qh (af cI.out kv);clear kv kz dp cI u9 uT vq uG uR uW qj s0 s1;have IL:=gS.out.cell (i:=1) rfl;have Iz:=gS.out.cell (i:=2) rfl;have I5:=gS.out.cell (i:=3) rfl;have Ir:=gS.out.cell (i:=4) rfl;have Il:=gS.out.cell (i:=5) rfl;have Jf:=gS.out.cell (i:=6) rfl;have BA:=gS.out.cell (i:=19) rfl;have s0:=kZ.out.s.cell (i:=0) rfl;have s1:=kZ.out.s.cell (i:=1) rfl))
 go_ret;exact fX.no HR.out (by decide) rfl kZ.out.below (aY.of_below gW.out)
theorem Ug (h:dK w lo g A n c Vs B m k Es C r rc G W) (hS:fA (Vs.map vS,Es,G)) (o:cZ) (h1:bN Es (bp o)=τ) (h2:bo (Vs.map vS) (mV o)=ρ) (h3:bN Es (cQ o)=ρ) (h4:24≤n):Ζ η 94 #[υ (ζ ⟨g,0,ε⟩),φ (aa o).toArray] W (fX w W lo g (cx (Vs.map vS,Es,G) (bp o) (mV o) (cQ o) o.m)):=by
 obtain⟨hn,hm,hr,pd⟩:=hS.n24 h;have nQ:(Vs.map vS).length=n:=by rw[Ρ];exact h.vlen
 have nJ:Es.length=m:=h.elen;have tU:Hid (∀X,dK w lo g A n c Vs B m k Es C r rc G X→Ζ η 113 #[υ (ζ ⟨g,0,ε⟩),φ #[J o.s,J o.n]] X fun e w'=>e=.returned (J (gi (fun v:EC=>v.1) Es (bp o)))∧σ X.heap.size X w'):=qh (fun X hX=>iz g A n c B m k C r rc o.s o.n Es X hX.s (aJ hX.e) (by omega));have HV:Hid (∀X,dK w lo g A n c Vs B m k Es C r rc G X→Ζ η 110 #[υ (ζ ⟨g,0,ε⟩),φ #[J o.s1,J o.n1]] X fun e w'=>e=.returned (J (gi (fun v:VC=>v.1) Vs (mV o)))∧σ X.heap.size X w'):=qh (fun X hX=>j7 g A n c B m k C r rc o.s1 o.n1 Vs X hX.s (aJ hX.v) (by omega));have pQ:Hid (∀X,dK w lo g A n c Vs B m k Es C r rc G X→Ζ η 113 #[υ (ζ ⟨g,0,ε⟩),φ #[J o.s2,J o.n2]] X fun e w'=>e=.returned (J (gi (fun v:EC=>v.1) Es (cQ o)))∧σ X.heap.size X w'):=qh (fun X hX=>iz g A n c B m k C r rc o.s2 o.n2 Es X hX.s (aJ hX.e) (by omega));have HR:Hid (cx (Vs.map vS,Es,G) (bp o) (mV o) (cQ o) o.m=(cp,3)):=qh (by unfold cx;rw[if_neg (by rw[h1];decide),if_neg (by rw[h2,h3];decide),if_pos (.inl (by rw[nQ];exact h4))]);obtain⟨i1,v1,e1,-,-,-⟩:=ij (k:=fun v:EC=>v.1) (l:=Es) h1;rw[e1] at tU;clear e1;have e2:=iA (k:=fun v:VC=>v.1) (l:=Vs) ((fe Vs _).trans h2);rw[e2] at HV;clear e2;have e3:=iA (k:=fun v:EC=>v.1) (l:=Es) h3;rw[e3] at pQ;clear e3;have ID:(24:Int)≤(n:Int):=by omega
 clear hS pd nQ nJ;have H:=qh h;clear h;go_enter Tryz.func94,Tryz.ntmps94;go_upto_region 1 with fail
 obtain⟨W1,aO⟩:=ay (W.alloc (δ (aa o).toArray 36));have aI:Hid (Whole W1 W.heap.size 36 (aa o)):=qh (by rw[←aO];exact Whole.new_ _ _ _);have jq:Hid (dK w lo g A n c Vs B m k Es C r rc G W1):=qh (by rw[←aO];exact H.out.al _);have eA:Hid (σ W.heap.size W W1):=qh (by rw[←aO];exact ax _ _);rw[aO];clear aO H;have Nb:Hid (W.heap.size≠g):=qh (aI.out.ne_ jq.out.s (by decide));obtain⟨b0,bK⟩:=ay W.heap.size;rw[bK] at aI Nb ⊢;clear bK;have lT:=aI.out.cell (i:=1) rfl;have mc:=aI.out.cell (i:=2) rfl
 go_wp2_with (first
  |(go_at_call 113
    refine(tU.out _ jq.out).mono ?_
    rintro e w2 ⟨rfl,ar⟩;have iF:=qh (jq.out.bl ar);have aV:=qh (aI.out.bl ar);have bX:=qh (af eA.out ar);clear ar jq aI eA lT mc;have nu:=aV.out.cell (i:=1) rfl;have ns:=aV.out.cell (i:=2) rfl;have rp:=aV.out.cell (i:=3) rfl;have rm:=aV.out.cell (i:=4) rfl;have nC:=aV.out.cell (i:=5) rfl;have nP:=aV.out.cell (i:=6) rfl;have mR:=aV.out.cell (i:=19) rfl;have s0:=iF.out.s.cell (i:=0) rfl;have s1:=iF.out.s.cell (i:=1) rfl)
  |(go_at_call 110
    refine(HV.out _ iF.out).mono ?_
    rintro e w3 ⟨rfl,bC⟩;have kz:=qh (iF.out.bl bC);have dp:=qh (aV.out.bl bC);have cI:=qh (af bX.out bC);clear bC iF aV bX nu ns rp rm nC nP mR s0 s1;have u9:=dp.out.cell (i:=1) rfl;have uT:=dp.out.cell (i:=2) rfl;have vq:=dp.out.cell (i:=3) rfl;have uG:=dp.out.cell (i:=4) rfl;have uR:=dp.out.cell (i:=5) rfl;have uW:=dp.out.cell (i:=6) rfl;have qj:=dp.out.cell (i:=19) rfl;have s0:=kz.out.s.cell (i:=0) rfl;have s1:=kz.out.s.cell (i:=1) rfl)
  |(go_at_call 113
    refine(pQ.out _ kz.out).mono ?_
    rintro e w4 ⟨rfl,kv⟩;have kZ:=qh (kz.out.bl kv);have gS:=qh (dp.out.bl kv);have gW:=qh (af cI.out kv);clear kv kz dp cI u9 uT vq uG uR uW qj s0 s1;have IL:=gS.out.cell (i:=1) rfl;have Iz:=gS.out.cell (i:=2) rfl;have I5:=gS.out.cell (i:=3) rfl;have Ir:=gS.out.cell (i:=4) rfl;have Il:=gS.out.cell (i:=5) rfl;have Jf:=gS.out.cell (i:=6) rfl;have BA:=gS.out.cell (i:=19) rfl;have s0:=kZ.out.s.cell (i:=0) rfl;have s1:=kZ.out.s.cell (i:=1) rfl))
 go_ret;exact fX.no HR.out (by decide) rfl kZ.out.below (aY.of_below gW.out)
theorem TG (h:dK w lo g A n c Vs B m k Es C r rc G W) (hS:fA (Vs.map vS,Es,G)) (o:cZ) (h1:bN Es (bp o)=τ) (h2:bo (Vs.map vS) (mV o)=ρ) (h3:bN Es (cQ o)=ρ) (h4:¬24≤n) (h5:40≤m):Ζ η 94 #[υ (ζ ⟨g,0,ε⟩),φ (aa o).toArray] W (fX w W lo g (cx (Vs.map vS,Es,G) (bp o) (mV o) (cQ o) o.m)):=by
 obtain⟨hn,hm,hr,pd⟩:=hS.n24 h;have nQ:(Vs.map vS).length=n:=by rw[Ρ];exact h.vlen
 have nJ:Es.length=m:=h.elen;have tU:Hid (∀X,dK w lo g A n c Vs B m k Es C r rc G X→Ζ η 113 #[υ (ζ ⟨g,0,ε⟩),φ #[J o.s,J o.n]] X fun e w'=>e=.returned (J (gi (fun v:EC=>v.1) Es (bp o)))∧σ X.heap.size X w'):=qh (fun X hX=>iz g A n c B m k C r rc o.s o.n Es X hX.s (aJ hX.e) (by omega));have HV:Hid (∀X,dK w lo g A n c Vs B m k Es C r rc G X→Ζ η 110 #[υ (ζ ⟨g,0,ε⟩),φ #[J o.s1,J o.n1]] X fun e w'=>e=.returned (J (gi (fun v:VC=>v.1) Vs (mV o)))∧σ X.heap.size X w'):=qh (fun X hX=>j7 g A n c B m k C r rc o.s1 o.n1 Vs X hX.s (aJ hX.v) (by omega));have pQ:Hid (∀X,dK w lo g A n c Vs B m k Es C r rc G X→Ζ η 113 #[υ (ζ ⟨g,0,ε⟩),φ #[J o.s2,J o.n2]] X fun e w'=>e=.returned (J (gi (fun v:EC=>v.1) Es (cQ o)))∧σ X.heap.size X w'):=qh (fun X hX=>iz g A n c B m k C r rc o.s2 o.n2 Es X hX.s (aJ hX.e) (by omega));have HR:Hid (cx (Vs.map vS,Es,G) (bp o) (mV o) (cQ o) o.m=(cp,3)):=qh (by unfold cx;rw[if_neg (by rw[h1];decide),if_neg (by rw[h2,h3];decide),if_pos (.inr (by rw[nJ];exact h5))]);obtain⟨i1,v1,e1,-,-,-⟩:=ij (k:=fun v:EC=>v.1) (l:=Es) h1;rw[e1] at tU;clear e1;have e2:=iA (k:=fun v:VC=>v.1) (l:=Vs) ((fe Vs _).trans h2);rw[e2] at HV;clear e2;have e3:=iA (k:=fun v:EC=>v.1) (l:=Es) h3;rw[e3] at pQ;clear e3;have ID:¬(24:Int)≤(n:Int):=by omega
 have h5i:(40:Int)≤(m:Int):=by omega
 clear hS pd nQ nJ;have H:=qh h;clear h;go_enter Tryz.func94,Tryz.ntmps94;go_upto_region 1 with fail
 obtain⟨W1,aO⟩:=ay (W.alloc (δ (aa o).toArray 36));have aI:Hid (Whole W1 W.heap.size 36 (aa o)):=qh (by rw[←aO];exact Whole.new_ _ _ _);have jq:Hid (dK w lo g A n c Vs B m k Es C r rc G W1):=qh (by rw[←aO];exact H.out.al _);have eA:Hid (σ W.heap.size W W1):=qh (by rw[←aO];exact ax _ _);rw[aO];clear aO H;have Nb:Hid (W.heap.size≠g):=qh (aI.out.ne_ jq.out.s (by decide));obtain⟨b0,bK⟩:=ay W.heap.size;rw[bK] at aI Nb ⊢;clear bK;have lT:=aI.out.cell (i:=1) rfl;have mc:=aI.out.cell (i:=2) rfl
 go_wp2_with (first
  |(go_at_call 113
    refine(tU.out _ jq.out).mono ?_
    rintro e w2 ⟨rfl,ar⟩;have iF:=qh (jq.out.bl ar);have aV:=qh (aI.out.bl ar);have bX:=qh (af eA.out ar);clear ar jq aI eA lT mc;have nu:=aV.out.cell (i:=1) rfl;have ns:=aV.out.cell (i:=2) rfl;have rp:=aV.out.cell (i:=3) rfl;have rm:=aV.out.cell (i:=4) rfl;have nC:=aV.out.cell (i:=5) rfl;have nP:=aV.out.cell (i:=6) rfl;have mR:=aV.out.cell (i:=19) rfl;have s0:=iF.out.s.cell (i:=0) rfl;have s1:=iF.out.s.cell (i:=1) rfl)
  |(go_at_call 110
    refine(HV.out _ iF.out).mono ?_
    rintro e w3 ⟨rfl,bC⟩;have kz:=qh (iF.out.bl bC);have dp:=qh (aV.out.bl bC);have cI:=qh (af bX.out bC);clear bC iF aV bX nu ns rp rm nC nP mR s0 s1;have u9:=dp.out.cell (i:=1) rfl;have uT:=dp.out.cell (i:=2) rfl;have vq:=dp.out.cell (i:=3) rfl;have uG:=dp.out.cell (i:=4) rfl;have uR:=dp.out.cell (i:=5) rfl;have uW:=dp.out.cell (i:=6) rfl;have qj:=dp.out.cell (i:=19) rfl;have s0:=kz.out.s.cell (i:=0) rfl;have s1:=kz.out.s.cell (i:=1) rfl)
  |(go_at_call 113
    refine(pQ.out _ kz.out).mono ?_
    rintro e w4 ⟨rfl,kv⟩;have kZ:=qh (kz.out.bl kv);have gS:=qh (dp.out.bl kv);have gW:=qh (af cI.out kv);clear kv kz dp cI u9 uT vq uG uR uW qj s0 s1;have IL:=gS.out.cell (i:=1) rfl;have Iz:=gS.out.cell (i:=2) rfl;have I5:=gS.out.cell (i:=3) rfl;have Ir:=gS.out.cell (i:=4) rfl;have Il:=gS.out.cell (i:=5) rfl;have Jf:=gS.out.cell (i:=6) rfl;have BA:=gS.out.cell (i:=19) rfl;have s0:=kZ.out.s.cell (i:=0) rfl;have s1:=kZ.out.s.cell (i:=1) rfl))
 go_ret;exact fX.no HR.out (by decide) rfl kZ.out.below (aY.of_below gW.out)
theorem Uq (h:dK w lo g A n c Vs B m k Es C r rc G W) (hS:fA (Vs.map vS,Es,G)) (o:cZ) (h1:bN Es (bp o)=τ) (h2:bo (Vs.map vS) (mV o)=ρ) (h3:bN Es (cQ o)=ρ) (h4:¬24≤n) (h5:¬40≤m) (EA:0≤o.m∧o.m≤3):Ζ η 94 #[υ (ζ ⟨g,0,ε⟩),φ (aa o).toArray] W (fX w W lo g (cx (Vs.map vS,Es,G) (bp o) (mV o) (cQ o) o.m)):=by
 obtain⟨hn,hm,hr,pd⟩:=hS.n24 h;have nQ:(Vs.map vS).length=n:=by rw[Ρ];exact h.vlen
 have nJ:Es.length=m:=h.elen;have tU:Hid (∀X,dK w lo g A n c Vs B m k Es C r rc G X→Ζ η 113 #[υ (ζ ⟨g,0,ε⟩),φ #[J o.s,J o.n]] X fun e w'=>e=.returned (J (gi (fun v:EC=>v.1) Es (bp o)))∧σ X.heap.size X w'):=qh (fun X hX=>iz g A n c B m k C r rc o.s o.n Es X hX.s (aJ hX.e) (by omega));have HV:Hid (∀X,dK w lo g A n c Vs B m k Es C r rc G X→Ζ η 110 #[υ (ζ ⟨g,0,ε⟩),φ #[J o.s1,J o.n1]] X fun e w'=>e=.returned (J (gi (fun v:VC=>v.1) Vs (mV o)))∧σ X.heap.size X w'):=qh (fun X hX=>j7 g A n c B m k C r rc o.s1 o.n1 Vs X hX.s (aJ hX.v) (by omega));have pQ:Hid (∀X,dK w lo g A n c Vs B m k Es C r rc G X→Ζ η 113 #[υ (ζ ⟨g,0,ε⟩),φ #[J o.s2,J o.n2]] X fun e w'=>e=.returned (J (gi (fun v:EC=>v.1) Es (cQ o)))∧σ X.heap.size X w'):=qh (fun X hX=>iz g A n c B m k C r rc o.s2 o.n2 Es X hX.s (aJ hX.e) (by omega));obtain⟨p,gp⟩:=ay (1 - o.m.tmod 2);obtain⟨q,gq⟩:=ay (o.m.tdiv 2)
 have hp:p=0∨p=1:=by
  rw[←gp,Int.tmod_eq_emod_of_nonneg EA.1];omega
 have hq:q=0∨q=1:=by
  rw[←gq,Jbp EA.1];omega
 have HR:Hid (cx (Vs.map vS,Es,G) (bp o) (mV o) (cQ o) o.m=((eY (rings (Vs.map vS) (fun l=>aS (fo l (aU (bp o) p) (aU (cQ o) (1 - q))))) (mV o,aS [aU (bp o) p,aU (cQ o) q],Jaf,0),iP Es (cQ o,Jaf,0),G),0)):=qh (by
  unfold cx;rw[if_neg (by rw[h1];decide),if_neg (by rw[h2,h3];decide),if_neg (by rw[nQ,nJ];omega)]
  show((eY (dn (Vs.map vS) (aU (bp o) (1 - o.m.tmod 2)) (aU (cQ o) (1 - o.m.tdiv 2))) (mV o,aS [aU (bp o) (1 - o.m.tmod 2),aU (cQ o) (o.m.tdiv 2)],Jaf,0),iP Es (cQ o,Jaf,0),G),(0:Int))=_
  rw[gp,gq,qy hS.fit.rg.keys hS.fit.rg.once hS.fit.rg.turned (by rcases hp with rfl|rfl;exact(hS.fit.end_ h1).1;exact(hS.fit.end_ h1).2)])
 have HUV:Hid (pW (fun v:VS=>v.1) (Vs.map vS)):=qh hS.fit.vup;have HUE:Hid (pW (fun e:EC=>e.1) Es):=qh hS.fit.eup;have HH2:=qh h2;have HH3:=qh h3;have SD:Hid (∀v∈Vs,v.2.1.2.1≤1000):=qh (fun v hv=>Nat.le_trans (pd v hv) (by decide));have QL:Hid (QI 125):=qh (rN Tryz.func125 (by kernel_rfl) rfl);have ID:¬(24:Int)≤(n:Int):=by omega
 have h5i:¬(40:Int)≤(m:Int):=by omega
 have HM:=qh EA;obtain⟨i1,v1,e1,-,-,-⟩:=ij (k:=fun v:EC=>v.1) (l:=Es) h1;rw[e1] at tU;clear e1;have e2:=iA (k:=fun v:VC=>v.1) (l:=Vs) ((fe Vs _).trans h2);rw[e2] at HV;clear e2;have e3:=iA (k:=fun v:EC=>v.1) (l:=Es) h3;rw[e3] at pQ;clear e3;clear hS pd nQ nJ h1 h2 h3;have H:=qh h;clear h;go_enter Tryz.func94,Tryz.ntmps94;go_upto_region 1 with fail
 obtain⟨W1,aO⟩:=ay (W.alloc (δ (aa o).toArray 36));have aI:Hid (Whole W1 W.heap.size 36 (aa o)):=qh (by rw[←aO];exact Whole.new_ _ _ _);have jq:Hid (dK w lo g A n c Vs B m k Es C r rc G W1):=qh (by rw[←aO];exact H.out.al _);have eA:Hid (σ W.heap.size W W1):=qh (by rw[←aO];exact ax _ _);rw[aO];clear aO H;have Nb:Hid (W.heap.size≠g):=qh (aI.out.ne_ jq.out.s (by decide));obtain⟨b0,bK⟩:=ay W.heap.size;rw[bK] at aI Nb ⊢;clear bK;have lT:=aI.out.cell (i:=1) rfl;have mc:=aI.out.cell (i:=2) rfl
 go_upto_region 7 with (first
  |(go_at_call 113
    refine(tU.out _ jq.out).mono ?_
    rintro e w2 ⟨rfl,ar⟩;have iF:=qh (jq.out.bl ar);have aV:=qh (aI.out.bl ar);have bX:=qh (af eA.out ar);clear ar jq aI eA lT mc;have nu:=aV.out.cell (i:=1) rfl;have ns:=aV.out.cell (i:=2) rfl;have rp:=aV.out.cell (i:=3) rfl;have rm:=aV.out.cell (i:=4) rfl;have nC:=aV.out.cell (i:=5) rfl;have nP:=aV.out.cell (i:=6) rfl;have mR:=aV.out.cell (i:=19) rfl;have s0:=iF.out.s.cell (i:=0) rfl;have s1:=iF.out.s.cell (i:=1) rfl)
  |(go_at_call 110
    refine(HV.out _ iF.out).mono ?_
    rintro e w3 ⟨rfl,bC⟩;have kz:=qh (iF.out.bl bC);have dp:=qh (aV.out.bl bC);have cI:=qh (af bX.out bC);clear bC iF aV bX nu ns rp rm nC nP mR s0 s1;have u9:=dp.out.cell (i:=1) rfl;have uT:=dp.out.cell (i:=2) rfl;have vq:=dp.out.cell (i:=3) rfl;have uG:=dp.out.cell (i:=4) rfl;have uR:=dp.out.cell (i:=5) rfl;have uW:=dp.out.cell (i:=6) rfl;have qj:=dp.out.cell (i:=19) rfl;have s0:=kz.out.s.cell (i:=0) rfl;have s1:=kz.out.s.cell (i:=1) rfl)
  |(go_at_call 113
    refine(pQ.out _ kz.out).mono ?_
    rintro e w4 ⟨rfl,kv⟩;have kZ:=qh (kz.out.bl kv);have gS:=qh (dp.out.bl kv);have gW:=qh (af cI.out kv);clear kv kz dp cI u9 uT vq uG uR uW qj s0 s1;have IL:=gS.out.cell (i:=1) rfl;have Iz:=gS.out.cell (i:=2) rfl;have I5:=gS.out.cell (i:=3) rfl;have Ir:=gS.out.cell (i:=4) rfl;have Il:=gS.out.cell (i:=5) rfl;have Jf:=gS.out.cell (i:=6) rfl;have BA:=gS.out.cell (i:=19) rfl;have s0:=kZ.out.s.cell (i:=0) rfl;have s1:=kZ.out.s.cell (i:=1) rfl))
 clear IL Iz I5 Ir Il Jf BA s0 s1;have aeh:=gS.out.cell (i:=1) rfl;have abK:=gS.out.cell (i:=2) rfl;have Wv:=gS.out.cell (i:=19) rfl;go_upto_region 8 with fail
 have ep:1 - o.m % 2=p:=by rw[←gp,Int.tmod_eq_emod_of_nonneg EA.1]
 have XO:o.m / 2=q:=by rw[←gq,Jbp EA.1]
 have VO:=qh (kZ.out.al (δ #[J o.s,J o.n,J p] 32));have dY:=qh (gS.out.al (δ #[J o.s,J o.n,J p] 32));have gI:=qh (aE gW.out (δ #[J o.s,J o.n,J p] 32));have P8:Hid (Whole (w4.alloc (δ #[J o.s,J o.n,J p] 32)) w4.heap.size 32 [J o.s,J o.n,J p]):=qh (Whole.new_ _ _ [_,_,_]);rw[ep];obtain⟨W5,xo⟩:=ay (w4.alloc (δ #[J o.s,J o.n,J p] 32));obtain⟨bm,gbm⟩:=ay w4.heap.size;rw[xo] at VO dY gI P8 ⊢;rw[gbm] at P8 ⊢;clear xo gbm kZ gS gW;clear aeh abK Wv;have ac2:=dY.out.cell (i:=5) rfl;have abp:=dY.out.cell (i:=6) rfl;have Xc:=dY.out.cell (i:=19) rfl;go_upto_region 9 with fail
 have yG:=qh (VO.out.al (δ #[J o.s2,J o.n2,J q] 32));have zZ:=qh (dY.out.al (δ #[J o.s2,J o.n2,J q] 32));have Uy:=qh (P8.out.al (δ #[J o.s2,J o.n2,J q] 32));have kF:=qh (aE gI.out (δ #[J o.s2,J o.n2,J q] 32));have ru:Hid (Whole (W5.alloc (δ #[J o.s2,J o.n2,J q] 32)) W5.heap.size 32 [J o.s2,J o.n2,J q]):=qh (Whole.new_ _ _ [_,_,_]);(try rw[XO]);obtain⟨W6,SU⟩:=ay (W5.alloc (δ #[J o.s2,J o.n2,J q] 32));obtain⟨bk,gbk⟩:=ay W5.heap.size;rw[SU] at yG zZ Uy kF ru ⊢;rw[gbk] at ru ⊢;clear SU gbk VO dY P8 gI ac2 abp Xc;have HQ:=qh hq;clear hq hp gp gq ep XO;have Nm_:Hid (bm≠g):=qh (Uy.out.ne_ yG.out.s (by decide));have Nk:Hid (bk≠g):=qh (ru.out.ne_ yG.out.s (by decide));have Wo:=qh (aY.of_below (g:=g) kF.out)
 go_wp2_with (first
  |(go_at_call 121
    refine(xh yG.out (by omega) SD.out 125 (ζ ⟨bm,0,ε⟩) (ζ ⟨bk,0,ε⟩) (fun l=>aS (fo l (aU (bp o) p) (aU (cQ o) (1 - q)))) (fun X=>Whole X bm 32 [J o.s,J o.n,J p]∧Whole X bk 32 [J o.s2,J o.n2,J q]) ⟨Uy.out,ru.out⟩ (fun X Y hx hk=>⟨hk.w _ _ _ hx.1 Nm_.out (by decide) (by decide) (by decide),hk.w _ _ _ hx.2 Nk.out (by decide) (by decide) (by decide)⟩) QL.out (fun X A n c L hx hr hn=>LY A n c bm bk L (aU (bp o) p) (aU (cQ o) q) X hr hx.1 hx.2 HQ.out hn)).mono ?_
    rintro e w7 ⟨rfl,Us7,hs7,hu7,NW⟩;have YT:=qh hs7;have HU7:=qh hu7;have BO:=qh (NW.box zZ.out yG.out.s);have HM7:=qh (NW.box Uy.out yG.out.s);have HK7:=qh (NW.box ru.out yG.out.s);have HJ7:=qh (Wo.out.trans NW);clear hs7 hu7 NW yG zZ Uy ru kF Wo;have ael:=BO.out.cell (i:=5) rfl;have adM:w7.cell? ⟨b0,6,ε⟩=ζ (J o.n2):=BO.out.cell (i:=6) rfl)
  |(go_at_call 116
    refine(NQ YT.out o.s2 o.n2 (by omega) HUE.out (ju.1 HH3.out)).mono ?_
    rintro e w8 ⟨rfl,B8,k8,hs8,Y6⟩;have Dd:=qh hs8;have vY:=qh (Y6.box BO.out YT.out.s);have NO:=qh (Y6.box HM7.out YT.out.s);have EM:=qh (Y6.box HK7.out YT.out.s);have VI:=qh (HJ7.out.trans Y6);clear hs8 Y6 YT BO HM7 HK7 HJ7 ael adM))
 clear SD QL HUE HH3 HM tU pQ HV;obtain⟨S3,hS3⟩:∃S:Nat→Prop,∀b,S b↔¬(b=b0∨b=bm∨b=bk):=⟨_,fun _=>Iff.rfl⟩
 have kz:=qh hS3;clear hS3;have aeo:∀w',Kept (S3) w8.drew w'→w'.cell? ⟨b0,3,ε⟩=ζ (J o.s1):=fun w' h=>h.cell (vY.out.dr.cell (i:=3) rfl) (fun k=>(kz.out _).1 k (.inl rfl))
 have ac3:∀w',Kept (S3) w8.drew w'→w'.cell? ⟨b0,4,ε⟩=ζ (J o.n1):=fun w' h=>h.cell (vY.out.dr.cell (i:=4) rfl) (fun k=>(kz.out _).1 k (.inl rfl))
 have abW:∀w',Kept (S3) w8.drew w'→w'.cell? ⟨bm,0,ε⟩=ζ (J o.s):=fun w' h=>h.cell (NO.out.dr.cell (i:=0) rfl) (fun k=>(kz.out _).1 k (.inr (.inl rfl)))
 have ado:∀w',Kept (S3) w8.drew w'→w'.cell? ⟨bk,0,ε⟩=ζ (J o.s2):=fun w' h=>h.cell (EM.out.dr.cell (i:=0) rfl) (fun k=>(kz.out _).1 k (.inr (.inr rfl)))
 have abZ:∀w',Kept (S3) w8.drew w'→w'.cell? ⟨bm,1,ε⟩=ζ (J o.n):=fun w' h=>h.cell (NO.out.dr.cell (i:=1) rfl) (fun k=>(kz.out _).1 k (.inr (.inl rfl)))
 have adB:∀w',Kept (S3) w8.drew w'→w'.cell? ⟨bk,1,ε⟩=ζ (J o.n2):=fun w' h=>h.cell (EM.out.dr.cell (i:=1) rfl) (fun k=>(kz.out _).1 k (.inr (.inr rfl)))
 have acn:∀w',Kept (S3) w8.drew w'→w'.cell? ⟨bm,2,ε⟩=ζ (J p):=fun w' h=>h.cell (NO.out.dr.cell (i:=2) rfl) (fun k=>(kz.out _).1 k (.inr (.inl rfl)))
 have aen:∀w',Kept (S3) w8.drew w'→w'.cell? ⟨bk,2,ε⟩=ζ (J q):=fun w' h=>h.cell (EM.out.dr.cell (i:=2) rfl) (fun k=>(kz.out _).1 k (.inr (.inr rfl)))
 refine aw (S3) (by kernel_rfl) ?_;refine ag 0 ?_;refine ag 1 ?_;refine ag 2 ?_;refine ag 3 ?_;refine ag 4 ?_;refine Kd 5 ?_;intro w' aB;have wD:=qh ((Dd.out.dr.bl aB).al (δ #[J o.s,J o.n,J p,J o.s2,J o.n2,J q] 32));have tX:=qh ((vY.out.dr.bl aB).al (δ #[J o.s,J o.n,J p,J o.s2,J o.n2,J q] 32));have TX:=qh ((NO.out.dr.bl aB).al (δ #[J o.s,J o.n,J p,J o.s2,J o.n2,J q] 32));have I4:=qh ((EM.out.dr.bl aB).al (δ #[J o.s,J o.n,J p,J o.s2,J o.n2,J q] 32));have Wh:=qh (VI.out.trans ((aY.of_below ((Below.refl _ w8).drew.trans (aB.mono (Nat.le_refl _)))).trans (aY.of_below (ax w' (δ #[J o.s,J o.n,J p,J o.s2,J o.n2,J q] 32)))));have oa:Hid (Whole (w'.alloc (δ #[J o.s,J o.n,J p,J o.s2,J o.n2,J q] 32)) w'.heap.size 32 [J o.s,J o.n,J p,J o.s2,J o.n2,J q]):=qh (Whole.new_ _ _ [_,_,_,_,_,_])
 refine⟨_,w'.alloc (δ #[J o.s,J o.n,J p,J o.s2,J o.n2,J q] 32),by(go_simp;first|done|exact rfl|exact⟨rfl,rfl⟩),Kept.of_below (ax _ _),?_⟩
 obtain⟨b9,UI⟩:=ay w'.heap.size;obtain⟨W9,PH⟩:=ay (w'.alloc (δ #[J o.s,J o.n,J p,J o.s2,J o.n2,J q] 32));rw[PH] at wD tX TX I4 Wh oa;rw[UI] at oa;rw[PH,UI];clear aB PH UI aeo ac3 abW abZ acn ado adB aen Dd vY NO EM VI;simp only[ξ,aq,ak,ao];refine sE 6 ?_;intro w' aB
 refine(JK (ζ ⟨b9,0,ε⟩) 2 2 [aU (bp o) p,aU (cQ o) q] w' (aX.whole3 (L:=[aU (bp o) p,aU (cQ o) q]) (t:=32) (by exact oa.out.bl aB)) (by omega)).mono ?_
 rintro e vB ⟨Y9,Z7,rfl,Fg,e6⟩
 refine⟨_,rfl,Kept.of_below e6,?_⟩
 obtain⟨Se,Gz⟩:=ay (aS [aU (bp o) p,aU (cQ o) q]);rw[Gz] at Fg ⊢;have GL:=qh Gz;obtain⟨N10,KF⟩:=ay Se.length;rw[KF] at Fg ⊢;have Ee:=qh Fg;have yt:=qh ((wD.out.bl aB).bl e6);have Bn:=qh ((tX.out.bl aB).bl e6);have YC:=qh ((TX.out.bl aB).bl e6);have Kl:=qh ((I4.out.bl aB).bl e6);have M5:=qh (Wh.out.trans ((aY.of_below aB).trans (aY.of_below e6)));clear aB e6 Fg Gz KF oa wD tX TX I4 Wh;simp only[ξ,aq,ak,ao];refine ag 7 ?_;refine sE 8 ?_;intro w' aB
 refine(Cv (yt.out.bl aB) ((o.s1,o.n1),(Y9,N10,Z7,Se),⟨#[]⟩,0) (Ee.out.bl aB) (by omega) (KA HU7.out HUV.out) (ju.1 ((fe Us7 _).trans ((K8 HU7.out _).trans HH2.out)))).mono ?_
 rintro e PB ⟨rfl,A11,c11,Uv,U0⟩
 refine⟨_,rfl,Of (yt.out.bl aB) Uv U0 S3 (fun b hb=>by
  rcases Classical.not_not.1 (fun k=>hb ((kz.out b).2 k)) with rfl|rfl|rfl
  ·exact⟨_,.inr (Bn.out.bl aB)⟩
  ·exact⟨_,.inl (YC.out.bl aB)⟩
  ·exact⟨_,.inl (Kl.out.bl aB)⟩),?_⟩
 have CO:=qh Uv;have LQ:=qh (M5.out.trans ((aY.of_below aB).trans U0));clear aB Uv U0 yt Bn YC Kl M5 Ee;simp only[ξ,aq,ak,ao];refine aD (by kernel_rfl) ?_ _;intro w12 UQ;have QV:=qh (CO.out.bl UQ);have PY:=qh (LQ.out.trans (aY.of_below UQ));clear UQ CO LQ;go_wp2;go_ret;exact fX.yes HR.out rfl PY.out QV.out (by rw[pw,HU7.out,←GL.out];rfl)
theorem OQ (h:dK w lo g A n c Vs B m k Es C r rc G W) (hS:fA (Vs.map vS,Es,G)) (o:cZ) (EA:0≤o.m∧o.m≤3):Ζ η 94 #[υ (ζ ⟨g,0,ε⟩),φ (aa o).toArray] W (fX w W lo g (cx (Vs.map vS,Es,G) (bp o) (mV o) (cQ o) o.m)):=by
 by_cases h1:bN Es (bp o)=τ
 ·by_cases h2:bo (Vs.map vS) (mV o)=τ
  ·exact Uj h hS o h1 h2
  ·have h2:=eq_false_of_ne_true h2
   by_cases h3:bN Es (cQ o)=τ
   ·exact U3 h hS o h1 h2 h3
   ·have h3:=eq_false_of_ne_true h3
    by_cases h4:24≤n
    ·exact Ug h hS o h1 h2 h3 h4
    ·by_cases h5:40≤m
     ·exact TG h hS o h1 h2 h3 h4 h5
     ·exact Uq h hS o h1 h2 h3 h4 h5 EA
 ·exact To h hS o (eq_false_of_ne_true h1)
end
end Go.Proofs.YtpdpbfmiahjiiaaGreat
