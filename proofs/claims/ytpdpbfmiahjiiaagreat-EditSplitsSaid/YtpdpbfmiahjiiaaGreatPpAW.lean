/- Several texts in one. -/
import Derived.Test.YtpdpbfmiahjiiaaGreatPpAB
import Derived.Test.YtpdpbfmiahjiiaaGreatPpAV
set_option linter.unusedSectionVars false
set_option linter.unusedSimpArgs false
set_option linter.unusedVariables false
set_option maxRecDepth 100000
set_option maxHeartbeats 16000000
namespace Go.Proofs.YtpdpbfmiahjiiaaGreat
open Go.RowKit
open _root_.Go.Value renaming slice→γ,string→μ,pointer→υ,agg→φ
open _root_.Go.Obj renaming cells→δ
open _root_.Option renaming none→ε,some→ζ
open _root_.Go.Proofs.Tryz renaming prog→η
open _root_.List renaming map_cons→ι,map_nil→π,mem_map→Α
open _root_.Go.Act renaming put→ξ
open _root_.Bool renaming false→ρ
open _root_.Go.RowKit renaming Below→σ
open _root_.Nat renaming le_refl→Δ
open _root_.Go renaming Calls→Ζ
open _root_.Go.RowKit.Below renaming refl→Θ
theorem OH {W:World} {A:Option Addr} {n c:Nat} {Vs:List VC} {B:Option Addr} {m k:Nat} {Es:List EC} {C:Option Addr} {r rc:Nat} {G:List Gn} (h:aR W A n c Vs B m k Es) (hg:aX W W.heap.size 6 C r rc (aj cB G)) (hn:n≤1000) (hm:m≤1000) (hr:∀x∈Vs,x.2.1.2.1≤900000) (hG:G.length≤400) (hRi:ft G) (hz:∀v∈Vs.map vS,¬v.1=(0,0)) (o:cZ):
 Ζ η 49 #[φ #[γ A n c,γ B m k,γ C r rc],φ (aa o).toArray] W (ew W (if bN Es (o.s,o.n)=ρ then(cp,13) else((gQ (gQ (Vs.map vS) (aU (o.s,o.n) 0)) (aU (o.s,o.n) 1),js Es (o.s,o.n),dJ (dJ G (aU (o.s,o.n) 0,iI (Vs.map vS) (aU (o.s,o.n) 0))) (aU (o.s,o.n) 1,iI (Vs.map vS) (aU (o.s,o.n) 1))),0))):=by
 have HE:Hid (∀X,σ W.heap.size W X→Ζ η 30 #[φ #[γ A n c,γ B m k],φ #[J o.s,J o.n]] X fun e w'=>e=.returned (.tuple #[φ (eC (iw Es (o.s,o.n)).1).toArray,.bool (iw Es (o.s,o.n)).2])∧σ X.heap.size X w'):=qh (fun X hX=>uC A n c Vs B m k Es o.s o.n X (h.e.bl hX) (by omega));have iN:=lG Es (o.s,o.n);obtain⟨⟨u,ok⟩,gu⟩:∃z,iw Es (o.s,o.n)=z:=⟨_,rfl⟩
 rw[gu] at HE iN;obtain⟨⟨i1,i2⟩,lb,at_⟩:=u;replace HE:Hid (∀X,σ W.heap.size W X→Ζ η 30 #[φ #[γ A n c,γ B m k],φ #[J o.s,J o.n]] X fun e w'=>e=.returned (.tuple #[φ #[J i1,J i2,μ lb,J at_],.bool ok])∧σ X.heap.size X w'):=HE;dsimp only at iN;rw[←iN];have HAh:Hid (∀(s:Int) X,σ W.heap.size W X→Ζ η 76 #[φ #[γ A n c,γ B m k],φ #[J o.s,J o.n,J s]] X fun e w'=>e=.returned (φ #[J (iI (Vs.map vS) (aU (o.s,o.n) s)).1,J (iI (Vs.map vS) (aU (o.s,o.n) s)).2.1,J (iI (Vs.map vS) (aU (o.s,o.n) s)).2.2])∧σ X.heap.size X w'):=qh (fun s X hX=>GS (h.below hX) hn hr o.s o.n s);have HGl:Hid (r=G.length):=qh (hg.rlen cw (by decide)).symm;have Xz:Hid (∀X,σ W.heap.size W X→∀x:Gn,Ζ η 75 #[γ C r rc,φ #[J x.1.1,J x.1.2.1,J x.1.2.2,J x.2.1,J x.2.2.1,J x.2.2.2]] X fun e w'=>∃A' n' c',e=.returned (γ A' n' c')∧aX w' w'.heap.size 6 A' n' c' (aj cB (dJ G x))∧σ X.heap.size X w'):=qh (fun X hX x=>xm C r rc G x X (hg.bl hX) (by have:=HGl.out;omega) hRi);have ZF:Hid (∀X,σ W.heap.size W X→∀(x y:Gn) C' r' rE,aX X X.heap.size 6 C' r' rE (aj cB (dJ G x))→Ζ η 75 #[γ C' r' rE,φ #[J y.1.1,J y.1.2.1,J y.1.2.2,J y.2.1,J y.2.2.1,J y.2.2.2]] X fun e w'=>∃A' n' c',e=.returned (γ A' n' c')∧aX w' w'.heap.size 6 A' n' c' (aj cB (dJ (dJ G x) y))∧σ X.heap.size X w'):=qh (fun X hX x y C' r' rE Ch=>xm C' r' rE (dJ G x) y X Ch (by have h1:=Ch.rlen cw (by decide);have h2:=lY G x hG hRi;omega) (fP x hRi))
 have Vp:Hid (∀X,σ W.heap.size W X→∀s:Int,Ζ η 77 #[φ #[γ A n c,γ B m k],φ #[J o.s,J o.n,J s]] X (im X n m (gQ (Vs.map vS) (aU (o.s,o.n) s)) Es)):=qh (fun X hX s=>tx (h.below hX) hn hm hr o.s o.n s)
 have Tq:Hid (∀X (x:D) A' c' B' k' Ws,aR X A' n c' Ws B' m k' Es→Ws.map vS=gQ (Vs.map vS) x→∀s:Int,Ζ η 77 #[φ #[γ A' n c',γ B' m k'],φ #[J o.s,J o.n,J s]] X (im X n m (gQ (gQ (Vs.map vS) x) (aU (o.s,o.n) s)) Es)):=qh (fun X x A' c' B' k' Ws hd hW s=>by
  have:=tx hd hn hm (rr.to hd (by rw[hW];exact(rr.of h hr).rem x)) o.s o.n s
  rw[hW] at this;exact this)
 have HWo:Hid (∀X (V:List VS) A' c' B' k' Ws,aR X A' n c' Ws B' m k' Es→Ws.map vS=V→Ζ η 47 #[φ #[γ A' n c',γ B' m k'],φ #[J 0,J 0],φ #[J o.s,J o.n]] X fun e w'=>∃v,e=.returned v∧Sr (dw V (0,0)) (js Es (o.s,o.n)) v w'∧σ X.heap.size X w'):=qh (fun X V A' c' B' k' Ws hd hW=>by
  refine(kV hd (0,0) (o.s,o.n) hn hm).mono ?_
  rintro e w' ⟨A5,n5,c5,B5,m5,k5,rfl,Ld,-,-,hb⟩
  refine⟨_,rfl,⟨A5,n5,c5,B5,m5,k5,_,rfl,Ld,?_⟩,hb⟩
  rw[←hW];unfold dw fY;rw[List.filter_map];rfl)
 have HCz:Hid (∀x y,dw (gQ (gQ (Vs.map vS) x) y) (0,0)=gQ (gQ (Vs.map vS) x) y):=qh (fun x y=>by
  unfold dw fY;refine List.filter_eq_self.2 (fun v hv=>?_);have hk:v.1∈(gQ (gQ (Vs.map vS) x) y).map (·.1):=Α.2 ⟨v,hv,rfl⟩;unfold gQ at hk;rw[ic,ic] at hk;obtain⟨u,hu,e⟩:=Α.1 hk;simpa [←e] using hz u hu)
 obtain⟨V,gV⟩:=ay (Vs.map vS);rw[gV] at HAh Vp Tq HCz ⊢;have HO:=qh (rfl:aa o=aa o);clear h hr hg hRi hz iN gu gV hG;go_enter Tryz.func49,Tryz.ntmps49;go_upto_region 1 with fail
 obtain⟨W0,b0,b1,b2,bP,bK,cX,dN,aN,aI,aV,a8,-,-,kQ,-,jK,-,bz,mj,oK,km⟩:=jN W 28 [γ A n c,γ B m k,γ C r rc] 36 (aa o) 28 [γ ε 0 0,γ ε 0 0,γ ε 0 0];rw[bP,dN,cX,bK];clear bP bK cX dN;have x0:=aN.out.cell (i:=0) rfl;have x1:=aN.out.cell (i:=1) rfl;have o1:=aI.out.cell (i:=1) rfl;have o2:=aI.out.cell (i:=2) rfl
 go_upto_region 2 with (first
  |(go_at_call 30
    refine(HE.out _ a8.out).mono ?_
    rintro e w2 ⟨rfl,ar⟩;have cy:=qh ar;clear ar x0 x1 o1 o2))
 have ar:=cy.out;have eA:=qh (aE (af a8.out ar) (δ #[J i1,J i2,μ lb,J at_] 67));have la:=qh ((aN.out.bl ar).al (δ #[J i1,J i2,μ lb,J at_] 67));have mm:=qh ((aI.out.bl ar).al (δ #[J i1,J i2,μ lb,J at_] 67));have ko:=qh ((aV.out.bl ar).al (δ #[J i1,J i2,μ lb,J at_] 67));obtain⟨W1,aO⟩:=ay (w2.alloc (δ #[J i1,J i2,μ lb,J at_] 67));obtain⟨b3,p9⟩:=ay w2.heap.size;rw[aO] at eA la mm ko ⊢;rw[p9];clear aO p9 ar cy aN aI aV a8 HE;cases ok with
 |false=>
  rw[if_pos rfl];have z0:=ko.out.cell (i:=0) rfl;have z1:=ko.out.cell (i:=1) rfl;have z2:=ko.out.cell (i:=2) rfl;have y0:=ko.out.free 0;have y1:=ko.out.free 1;have y2:=ko.out.free 2;go_wp2;exact aG rfl b2 rfl rfl (((ko.out.set_ 0 (γ ε 0 0)).set_ 1 (γ ε 0 0)).set_ 2 (γ ε 0 0)) Tryz.underlying28 rfl (by kernel_rfl) rfl ⟨ε,0,0,ε,0,0,ε,0,0,[],rfl,eE _,rfl,aX.no _ _ _,((eA.out.setCell (p:=⟨b2,0,ε⟩) bz.out (γ ε 0 0)).setCell (p:=⟨b2,1,ε⟩) bz.out (γ ε 0 0)).setCell (p:=⟨b2,2,ε⟩) bz.out (γ ε 0 0)⟩
 |true=>
  rw[if_neg (show ¬true=ρ by decide)];have o1:=mm.out.cell (i:=1) rfl;have o2:=mm.out.cell (i:=2) rfl;go_upto_region 5 with fail
  clear o1 o2;have gW:=qh (aE eA.out (δ #[J o.s,J o.n,J 0] 32));have MI:=qh (la.out.al (δ #[J o.s,J o.n,J 0] 32));have CN:=qh (mm.out.al (δ #[J o.s,J o.n,J 0] 32));have Ox:=qh (ko.out.al (δ #[J o.s,J o.n,J 0] 32));have zP:=qh (Whole.new_ W1 32 [J o.s,J o.n,J 0]);have Ev:Hid (W.heap.size≤W1.heap.size):=qh eA.out.size;obtain⟨W4,cS⟩:=ay (W1.alloc (δ #[J o.s,J o.n,J 0] 32));obtain⟨b4,dk⟩:=ay W1.heap.size;rw[cS] at gW MI CN Ox zP ⊢;rw[dk] at zP Ev ⊢;clear cS dk eA la mm ko;have o1:=CN.out.cell (i:=1) rfl;have o2:=CN.out.cell (i:=2) rfl;go_upto_region 6 with fail
  clear o1 o2;have gI:=qh (aE gW.out (δ #[J o.s,J o.n,J 1] 32));have wJ:=qh (MI.out.al (δ #[J o.s,J o.n,J 1] 32));have GK:=qh (CN.out.al (δ #[J o.s,J o.n,J 1] 32));have FB:=qh (Ox.out.al (δ #[J o.s,J o.n,J 1] 32));have Ly:=qh (zP.out.al (δ #[J o.s,J o.n,J 1] 32));have JR:=qh (Whole.new_ W4 32 [J o.s,J o.n,J 1]);have ED:Hid (W.heap.size≤W4.heap.size):=qh gW.out.size;obtain⟨W5,cS⟩:=ay (W4.alloc (δ #[J o.s,J o.n,J 1] 32));obtain⟨b5,dk⟩:=ay W4.heap.size;rw[cS] at gI wJ GK FB Ly JR ⊢;rw[dk] at JR ED ⊢;clear cS dk gW MI CN Ox zP;have fv:=dm (i:=2) wJ.out rfl;refine aw (aF) (by kernel_rfl) ?_;refine ag 0 ?_;refine ag 1 ?_;refine bY 2 (hy:=bU (by rfl) 32 (.tmp 8) rfl b4 rfl 32 [J o.s,J o.n,J 0] _ (fun w' h=>h.whole Ly.out.dr (fun h=>h)) Tryz.underlying32 rfl (by kernel_rfl)) (h:=?_);refine ag 3 ?_;refine bY 4 (hy:=bG (by rfl) 25 (.tmp 32) rfl ⟨b0,0,ε⟩ rfl [γ A n c,γ B m k] _ (fun w' h i u hu=>(h.whole wJ.out.dr (fun h=>h)).sub_ 0 hu) Tryz.underlying25 rfl (by kernel_rfl)) (h:=?_);refine bY 5 (hy:=bU (by rfl) 32 (.tmp 8) rfl b4 rfl 32 [J o.s,J o.n,J 0] _ (fun w' h=>h.whole Ly.out.dr (fun h=>h)) Tryz.underlying32 rfl (by kernel_rfl)) (h:=?_)
  refine bY 6 (hy:=by apply ck;rfl;rotate_left;intro w' aB;exact HAh.out 0 w' (af gI.out ((Θ _ W5).drew.trans (aB.below (Δ _) (fun _ _ q=>q))));intro w';go_simp) (h:=?_);refine ag 7 ?_;refine sE 8 ?_;intro w' aB;have hx:=(Θ _ W5).drew.trans aB
  refine(Xz.out w' (af gI.out hx) (aU (o.s,o.n) 0,iI V (aU (o.s,o.n) 0))).mono ?_
  rintro e w9 ⟨Ca,ra,ca,rfl,o0,o6⟩
  refine⟨_,rfl,Kept.of_below o6,?_⟩
  have Wf:=qh o0;have Pb:Hid (σ W5.heap.size W5 w9):=qh (Ext.trans hx o6);clear hx aB o0 o6 Xz;simp only[ξ,aq,ak,ao];refine ag 9 ?_;refine aD (by kernel_rfl) ?_ _;intro w6 VD;have HGb:=qh (Wf.out.bl VD);have OU:Hid (σ W5.heap.size W5 w6):=qh (Ext.trans Pb.out VD);clear Wf Pb VD;go_upto_region 7 with fail
  have AQ:=qh (wJ.out.bl OU.out);have G9:=qh (GK.out.bl OU.out);have Jo:=qh (FB.out.bl OU.out);have SB:=qh (Ly.out.bl OU.out);have QH:=qh (JR.out.bl OU.out);have kF:=qh (af gI.out OU.out);clear OU gI wJ GK FB Ly JR;refine aw (aF) (by kernel_rfl) ?_;refine ag 0 ?_;refine bY 1 (hy:=bU (by rfl) 32 (.tmp 9) rfl b5 rfl 32 [J o.s,J o.n,J 1] _ (fun w' h=>h.whole QH.out.dr (fun h=>h)) Tryz.underlying32 rfl (by kernel_rfl)) (h:=?_);refine ag 2 ?_;refine bY 3 (hy:=bG (by rfl) 25 (.tmp 40) rfl ⟨b0,0,ε⟩ rfl [γ A n c,γ B m k] _ (fun w' h i u hu=>(h.whole AQ.out.dr (fun h=>h)).sub_ 0 hu) Tryz.underlying25 rfl (by kernel_rfl)) (h:=?_);refine bY 4 (hy:=bU (by rfl) 32 (.tmp 9) rfl b5 rfl 32 [J o.s,J o.n,J 1] _ (fun w' h=>h.whole QH.out.dr (fun h=>h)) Tryz.underlying32 rfl (by kernel_rfl)) (h:=?_);refine bY 5 (hy:=by apply ck;rfl;rotate_left;intro w' aB;exact HAh.out 1 w' (af kF.out ((Θ _ w6).drew.trans (aB.below (Δ _) (fun _ _ q=>q))));intro w';go_simp) (h:=?_);refine ag 6 ?_;refine sE 7 ?_;intro w' aB;have hx:=(Θ _ w6).drew.trans aB
  refine(ZF.out w' (af kF.out hx) (aU (o.s,o.n) 0,iI V (aU (o.s,o.n) 0)) (aU (o.s,o.n) 1,iI V (aU (o.s,o.n) 1)) _ _ _ (HGb.out.bl hx)).mono ?_
  rintro e w9 ⟨Cd,rd,cd,rfl,o0,o6⟩
  refine⟨_,rfl,Kept.of_below o6,?_⟩
  have HGd:=qh o0;have yC:Hid (σ w6.heap.size w6 w9):=qh (Ext.trans hx o6);clear hx aB o0 o6 ZF;simp only[ξ,aq,ak,ao];refine ag 8 ?_;refine aD (by kernel_rfl) ?_ _;intro w7 VF;have K9:=qh (HGd.out.bl VF);have Ut:Hid (σ w6.heap.size w6 w7):=qh (Ext.trans yC.out VF);clear HGd yC VF HGb;go_upto_region 8 with fail
  have wI:=qh (AQ.out.bl Ut.out);have wX:=qh (G9.out.bl Ut.out);have CQ:=qh (Jo.out.bl Ut.out);have BM:=qh (SB.out.bl Ut.out);have IP:=qh (QH.out.bl Ut.out);have Sl:=qh (af kF.out Ut.out);clear Ut kF HAh AQ G9 Jo SB QH;have sV:Hid (∀y,Ext w7.drew y→y.cell? ⟨b0,0,ε⟩=ζ (γ A n c)∧y.cell? ⟨b0,1,ε⟩=ζ (γ B m k)∧y.cell? ⟨b1,1,ε⟩=ζ (J o.s)∧y.cell? ⟨b1,2,ε⟩=ζ (J o.n)∧y.cell? ⟨b4,0,ε⟩=ζ (J o.s)∧y.cell? ⟨b4,1,ε⟩=ζ (J o.n)∧y.cell? ⟨b4,2,ε⟩=ζ (J 0)∧y.cell? ⟨b5,0,ε⟩=ζ (J o.s)∧y.cell? ⟨b5,1,ε⟩=ζ (J o.n)∧y.cell? ⟨b5,2,ε⟩=ζ (J 1)):=qh (fun y hy=>⟨(wI.out.dr.bl hy).cell (i:=0) rfl,(wI.out.dr.bl hy).cell (i:=1) rfl,(wX.out.dr.bl hy).cell (i:=1) rfl,(wX.out.dr.bl hy).cell (i:=2) rfl,(BM.out.dr.bl hy).cell (i:=0) rfl,(BM.out.dr.bl hy).cell (i:=1) rfl,(BM.out.dr.bl hy).cell (i:=2) rfl,(IP.out.dr.bl hy).cell (i:=0) rfl,(IP.out.dr.bl hy).cell (i:=1) rfl,(IP.out.dr.bl hy).cell (i:=2) rfl⟩)
  refine kc 11 (de w7.heap.size) (F6 [fun v W=>v=υ (ζ ⟨b0,0,ε⟩),fun v W=>v=φ #[γ A n c,γ B m k],fun v W=>v=φ #[J o.s,J o.n,J 0],fun v W=>II n m (gQ V (aU (o.s,o.n) 0)) Es (v) (W),fun v W=>v=φ #[J o.s,J o.n,J 1],fun v W=>II n m (gQ (gQ V (aU (o.s,o.n) 0)) (aU (o.s,o.n) 1)) Es (v) (W),fun v W=>v=φ #[J 0,J 0],fun v W=>v=υ (ζ ⟨b1,1,ε⟩),fun v W=>v=φ #[J o.s,J o.n],fun v W=>Sr (dw (gQ (gQ V (aU (o.s,o.n) 0)) (aU (o.s,o.n) 1)) (0,0)) (js Es (o.s,o.n)) (v) (W),fun v W=>∃q,v=υ (ζ ⟨q,0,ε⟩)∧w7.heap.size≤q∧Whole (W) q 25 [γ ε 0 0,γ ε 0 0]]) (Ext w7.drew) (by kernel_rfl) (by kernel_rfl) (by kernel_rfl) (by kernel_rfl) (by kernel_rfl) (vZ (by
   intro Q hQ v w1 w2 h hx;simp only[List.mem_cons,List.not_mem_nil,or_false] at hQ;rcases hQ with rfl|rfl|rfl|rfl|rfl|rfl|rfl|rfl|rfl|rfl|rfl
   ·exact(fun v w1 w2 h hx=>h) v w1 w2 h hx
   ·exact(fun v w1 w2 h hx=>h) v w1 w2 h hx
   ·exact(fun v w1 w2 h hx=>h) v w1 w2 h hx
   ·exact(fun v w1 w2 h hx=>h.up hx) v w1 w2 h hx
   ·exact(fun v w1 w2 h hx=>h) v w1 w2 h hx
   ·exact(fun v w1 w2 h hx=>h.up hx) v w1 w2 h hx
   ·exact(fun v w1 w2 h hx=>h) v w1 w2 h hx
   ·exact(fun v w1 w2 h hx=>h) v w1 w2 h hx
   ·exact(fun v w1 w2 h hx=>h) v w1 w2 h hx
   ·exact(fun v w1 w2 h hx=>h.up hx) v w1 w2 h hx
   ·exact(fun v w1 w2 h hx=>(by obtain⟨q,e1,e2,e3⟩:=h;exact⟨q,e1,e2,e3.bl hx⟩)) v w1 w2 h hx)) (fun _ _ h k=>h.trans k) (Ext.refl _) ?_ ?_
  ·intro i RZ;have lJ:i=0∨i=1∨i=2∨i=3∨i=4∨i=5∨i=6∨i=7∨i=8∨i=9∨i=10:=by omega
   rcases lJ with rfl|rfl|rfl|rfl|rfl|rfl|rfl|rfl|rfl|rfl|rfl
   ·refine bj ?_;intro xf y hg aK;simp only[aP,ι,π,aC,ξ,aq,ak,ao];refine .inl ⟨by rfl,?_⟩;go_simp;exact⟨Ext.refl _,rfl⟩
   ·refine bj ?_;intro xf y hg aK;have d0:xf 0=υ (ζ ⟨b0,0,ε⟩):=aK 0 (by decide);obtain⟨Af,qR,ox,zT,SE,VQ,FL,PS,hl8,Ip⟩:=sV.out _ hg;simp only[aP,ι,π,aC,ξ,aq,ak,ao];simp only[d0];refine .inl ⟨by rfl,?_⟩;go_simp;exact⟨Ext.refl _,rfl⟩
   ·refine bj ?_;intro xf y hg aK;obtain⟨Af,qR,ox,zT,SE,VQ,FL,PS,hl8,Ip⟩:=sV.out _ hg;simp only[aP,ι,π,aC,ξ,aq,ak,ao];refine .inl ⟨by rfl,?_⟩;go_simp;exact⟨Ext.refl _,rfl⟩
   ·refine bj ?_;intro xf y hg aK;have d1:xf 1=φ #[γ A n c,γ B m k]:=aK 1 (by decide);have d2:xf 2=φ #[J o.s,J o.n,J 0]:=aK 2 (by decide);simp only[aP,ι,π,aC,ξ,aq,ak,ao];simp only[d1,d2];refine .inl ⟨by rfl,eR (by go_simp;first|done|exact⟨rfl,rfl⟩|with_reducible rfl) ?_⟩
    refine(Vp.out y (af (aL Sl.out) hg) 0).mono ?_
    rintro e w2 ⟨A3,c3,B3,k3,Ws3,rfl,Ss,EA,-,-,-,hb⟩
    refine⟨_,rfl,hb,?_⟩
    show II n m (gQ V (aU (o.s,o.n) 0)) Es ((_:Value)) (w2);exact⟨A3,c3,B3,k3,Ws3,rfl,Ss,EA⟩
   ·refine bj ?_;intro xf y hg aK;obtain⟨Af,qR,ox,zT,SE,VQ,FL,PS,hl8,Ip⟩:=sV.out _ hg;simp only[aP,ι,π,aC,ξ,aq,ak,ao];refine .inl ⟨by rfl,?_⟩;go_simp;exact⟨Ext.refl _,rfl⟩
   ·refine bj ?_;intro xf y hg aK;obtain⟨A3,c3,B3,k3,Ws3,d3,Ss,EA⟩:II n m (gQ V (aU (o.s,o.n) 0)) Es (xf 3) (y):=aK 3 (by decide);have d4:xf 4=φ #[J o.s,J o.n,J 1]:=aK 4 (by decide);obtain⟨A3,c3,B3,k3,Ws3,d3,Ss,EA⟩:II n m (gQ V (aU (o.s,o.n) 0)) Es (xf 3) (y):=aK 3 (by decide);simp only[aP,ι,π,aC,ξ,aq,ak,ao];simp only[d3,d4,d3];refine .inl ⟨by rfl,eR (by go_simp;first|done|exact⟨rfl,rfl⟩|with_reducible rfl) ?_⟩
    refine(Tq.out y (aU (o.s,o.n) 0) A3 c3 B3 k3 Ws3 Ss EA 1).mono ?_
    rintro e w2 ⟨A5,c5,B5,k5,PD,rfl,Qn,QK,-,-,-,hb⟩
    refine⟨_,rfl,hb,?_⟩
    show II n m (gQ (gQ V (aU (o.s,o.n) 0)) (aU (o.s,o.n) 1)) Es ((_:Value)) (w2);exact⟨A5,c5,B5,k5,PD,rfl,Qn,QK⟩
   ·refine bj ?_;intro xf y hg aK;simp only[aP,ι,π,aC,ξ,aq,ak,ao];refine .inl ⟨by rfl,?_⟩;go_simp;exact⟨Ext.refl _,rfl⟩
   ·refine bj ?_;intro xf y hg aK;simp only[aP,ι,π,aC,ξ,aq,ak,ao];refine .inl ⟨by rfl,?_⟩;go_simp;exact⟨Ext.refl _,rfl⟩
   ·refine bj ?_;intro xf y hg aK;have d7:xf 7=υ (ζ ⟨b1,1,ε⟩):=aK 7 (by decide);obtain⟨Af,qR,ox,zT,SE,VQ,FL,PS,hl8,Ip⟩:=sV.out _ hg;simp only[aP,ι,π,aC,ξ,aq,ak,ao];simp only[d7];refine .inl ⟨by rfl,?_⟩;go_simp;exact⟨Ext.refl _,rfl⟩
   ·refine bj ?_;intro xf y hg aK;obtain⟨A5,c5,B5,k5,PD,d5,Qn,QK⟩:II n m (gQ (gQ V (aU (o.s,o.n) 0)) (aU (o.s,o.n) 1)) Es (xf 5) (y):=aK 5 (by decide);have d6:xf 6=φ #[J 0,J 0]:=aK 6 (by decide);have d8:xf 8=φ #[J o.s,J o.n]:=aK 8 (by decide);obtain⟨A5,c5,B5,k5,PD,d5,Qn,QK⟩:II n m (gQ (gQ V (aU (o.s,o.n) 0)) (aU (o.s,o.n) 1)) Es (xf 5) (y):=aK 5 (by decide);simp only[aP,ι,π,aC,ξ,aq,ak,ao];simp only[d5,d6,d8,d5];refine .inl ⟨by rfl,eR (by go_simp;first|done|exact⟨rfl,rfl⟩|with_reducible rfl) ?_⟩
    refine(HWo.out y _ A5 c5 B5 k5 PD Qn QK).mono ?_
    rintro e w2 ⟨v,rfl,hu,hb⟩
    refine⟨_,rfl,hb,?_⟩
    show Sr (dw (gQ (gQ V (aU (o.s,o.n) 0)) (aU (o.s,o.n) 1)) (0,0)) (js Es (o.s,o.n)) ((_:Value)) (w2);exact hu
   ·refine bj ?_;intro xf y hg aK;simp only[aP,ι,π,aC,ξ,aq,ak,ao];refine .inl ⟨by rfl,jy (w':=y.alloc (δ #[γ ε 0 0,γ ε 0 0] 25)) (by go_simp;first|done|exact rfl|exact⟨rfl,rfl⟩) (ax _ _) ?_⟩;show ∃q,(_:Value)=υ (ζ ⟨q,0,ε⟩)∧w7.heap.size≤q∧Whole (y.alloc (δ #[γ ε 0 0,γ ε 0 0] 25)) q 25 [γ ε 0 0,γ ε 0 0]
    exact⟨y.heap.size,rfl,hg.size,Whole.new_ _ _ [γ ε 0 0,γ ε 0 0]⟩
  intro xf y hg cN;obtain⟨A9,n9,c9,B9,m9,k9,CU,d9,hd9,hm9⟩:Sr (dw (gQ (gQ V (aU (o.s,o.n) 0)) (aU (o.s,o.n) 1)) (0,0)) (js Es (o.s,o.n)) (xf 9) (y):=cN 9 (by decide);obtain⟨gr,d10,It,Cg⟩:∃q,xf 10=υ (ζ ⟨q,0,ε⟩)∧w7.heap.size≤q∧Whole (y) q 25 [γ ε 0 0,γ ε 0 0]:=cN 10 (by decide)
  simp only[aP,ι,π,aC,ξ,aq,ak,ao];simp only[d9,d10];clear cN d9 d10;have uU:=qh hd9;have TX:=qh hm9;have YF:=qh (K9.out.dr.bl hg);clear hd9 hm9;have vW:=qh Cg;have zK:=qh (af (aL (Θ _ w7)) hg);have kJ:Hid (w7.heap.size≤gr):=qh It;clear It Cg;refine kI 11 ?_;intro w' aB
  refine⟨w'.setRow gr #[γ A9 n9 c9,γ B9 m9 k9],bn 25 (.tmp 11) (.tmp 55) rfl gr rfl [γ A9 n9 c9,γ B9 m9 k9] rfl 25 [γ ε 0 0,γ ε 0 0] (vW.out.bl aB) (by kernel_rfl) rfl (by simp[Value.oneCell']),dV (show w7.heap.size≤gr from kJ.out) _,?_⟩
  have By:Hid (Whole (w'.setRow gr #[γ A9 n9 c9,γ B9 m9 k9]) gr 25 [γ A9 n9 c9,γ B9 m9 k9]):=qh (Whole.row (vW.out.bl aB) [γ A9 n9 c9,γ B9 m9 k9]);have oZ:Hid (σ w7.heap.size w7 (w'.setRow gr #[γ A9 n9 c9,γ B9 m9 k9])):=qh (cC (af zK.out aB) kJ.out _);have wG:=qh (xC (uU.out.bl aB) (vW.out.bl aB) (iu (fun i=>by simp) (fun i=>by simp)) #[γ A9 n9 c9,γ B9 m9 k9]);have M1:=qh ((YF.out.bl aB).row_far (oF (DQ (YF.out.bl aB) (vW.out.bl aB) (iu (fun i=>by simp) (fun i=>by simp)))) #[γ A9 n9 c9,γ B9 m9 k9]);obtain⟨V1,kN⟩:=ay (w'.setRow gr #[γ A9 n9 c9,γ B9 m9 k9]);rw[kN] at By oZ wG M1 ⊢;clear aB kN vW zK;refine aD (by kernel_rfl) ?_ _;intro W8 cE;have tY:=qh (By.out.bl cE);have mB:=qh (af oZ.out cE);have uU:=qh (wG.out.bl cE);have YF:=qh (M1.out.bl cE);clear wG M1;clear cE By oZ;have rY:=qh (CQ.out.bl mB.out);have oR:=qh (af Sl.out mB.out);clear wI wX CQ BM IP mB sV Sl K9 Vp Tq HWo;obtain⟨W9,PH⟩:=ay W8;rw[PH] at rY oR tY uU YF ⊢;clear PH W8;have z0:=rY.out.cell (i:=0) rfl;have z1:=rY.out.cell (i:=1) rfl;have z2:=rY.out.cell (i:=2) rfl;have y0:=rY.out.free 0;have y1:=rY.out.free 1;have y2:=rY.out.free 2;have q0:=tY.out.cell (i:=0) rfl;have q1:=tY.out.cell (i:=1) rfl;go_wp2;have HCq:=HCz.out (aU (o.s,o.n) 0) (aU (o.s,o.n) 1);have k0:=aZ (a:=γ ε 0 0) (b:=γ ε 0 0) (d:=γ ε 0 0) (fun i=>by simp) (fun i=>by simp) (fun i=>by simp)
  have k1:=aZ (a:=γ A9 n9 c9) (b:=γ ε 0 0) (d:=γ ε 0 0) (fun i=>by simp) (fun i=>by simp) (fun i=>by simp);have k2:=aZ (a:=γ A9 n9 c9) (b:=γ B9 m9 k9) (d:=γ ε 0 0) (fun i=>by simp) (fun i=>by simp) (fun i=>by simp);have s0:=rY.out;have s1:=s0.set_ 0 (γ A9 n9 c9);have s2:=s1.set_ 1 (γ B9 m9 k9);exact aG rfl b2 rfl rfl (s2.set_ 2 (γ Cd rd cd)) Tryz.underlying28 rfl (by kernel_rfl) rfl ⟨A9,n9,c9,B9,m9,k9,Cd,rd,cd,CU,rfl,bA (bA (bA uU.out s0 k0 0 _) s1 k1 1 _) s2 k2 2 _,TX.out.trans HCq,bL (bL (bL YF.out s0 k0 0 _) s1 k1 1 _) s2 k2 2 _,((oR.out.setCell (p:=⟨b2,0,ε⟩) bz.out (γ A9 n9 c9)).setCell (p:=⟨b2,1,ε⟩) bz.out (γ B9 m9 k9)).setCell (p:=⟨b2,2,ε⟩) bz.out (γ Cd rd cd)⟩
end Go.Proofs.YtpdpbfmiahjiiaaGreat
