/- Several texts in one. -/
import Derived.Test.YtpdpbfmiahjiiaaGreatPlAB
import Derived.Test.YtpdpbfmiahjiiaaGreatPlAS
set_option linter.unusedSectionVars false
set_option linter.unusedSimpArgs false
set_option linter.unusedVariables false
set_option maxRecDepth 100000
set_option maxHeartbeats 16000000
namespace Go.Proofs.YtpdpbfmiahjiiaaGreat
open Go.RowKit
open _root_.Go.Value renaming slice→γ,string→μ,pointer→υ,agg→φ
open _root_.Go.Obj renaming cells→δ
open _root_.Option renaming none→ε,some→ζ
open _root_.Go.Proofs.Tryz renaming prog→η
open _root_.List renaming map_cons→ι,map_nil→π,mem_map→Α
open _root_.Go.Act renaming put→ξ
open _root_.Bool renaming false→ρ
open _root_.Go.RowKit renaming Below→σ
open _root_.Nat renaming le_refl→Δ
open _root_.Go renaming Calls→Ζ
open _root_.Go.RowKit.Below renaming refl→Θ
theorem Lc {W:World} {A:Option Addr} {n c:Nat} {Vs:List VC} {B:Option Addr} {m k:Nat} {Es:List EC} {C:Option Addr} {r rc:Nat} {G:List Gn} (h:aO W A n c Vs B m k Es) (hg:aS W W.heap.size 6 C r rc (ao cj G)) (hn:n≤1000) (hm:m≤1000) (hr:∀x∈Vs,x.2.1.2.1≤900000) (hG:G.length≤400) (WY:fi G) (hz:∀v∈Vs.map vS,¬v.1=(0,0)) (o:cO):
 Ζ η 49 #[φ #[γ A n c,γ B m k,γ C r rc],φ (aa o).toArray] W (dH W (if cx Es (o.s,o.n)=ρ then(cC,13) else((fZ (fZ (Vs.map vS) (bg (o.s,o.n) 0)) (bg (o.s,o.n) 1),eI Es (o.s,o.n),eA (eA G (bg (o.s,o.n) 0,dz (Vs.map vS) (bg (o.s,o.n) 0))) (bg (o.s,o.n) 1,dz (Vs.map vS) (bg (o.s,o.n) 1))),0))):=by
 have HE:Hid (∀X,σ W.heap.size W X→Ζ η 30 #[φ #[γ A n c,γ B m k],φ #[J o.s,J o.n]] X fun e w'=>e=.returned (.tuple #[φ (eC (iw Es (o.s,o.n)).1).toArray,.bool (iw Es (o.s,o.n)).2])∧σ X.heap.size X w'):=qh (fun X hX=>yG A n c Vs B m k Es o.s o.n X (h.e.bl hX) (by omega));have iK:=oO Es (o.s,o.n);obtain⟨⟨u,ok⟩,gu⟩:∃z,iw Es (o.s,o.n)=z:=⟨_,rfl⟩
 rw[gu] at HE iK;obtain⟨⟨i1,i2⟩,lb,at_⟩:=u;replace HE:Hid (∀X,σ W.heap.size W X→Ζ η 30 #[φ #[γ A n c,γ B m k],φ #[J o.s,J o.n]] X fun e w'=>e=.returned (.tuple #[φ #[J i1,J i2,μ lb,J at_],.bool ok])∧σ X.heap.size X w'):=HE;dsimp only at iK;rw[←iK];have MB:Hid (∀(s:Int) X,σ W.heap.size W X→Ζ η 76 #[φ #[γ A n c,γ B m k],φ #[J o.s,J o.n,J s]] X fun e w'=>e=.returned (φ #[J (dz (Vs.map vS) (bg (o.s,o.n) s)).1,J (dz (Vs.map vS) (bg (o.s,o.n) s)).2.1,J (dz (Vs.map vS) (bg (o.s,o.n) s)).2.2])∧σ X.heap.size X w'):=qh (fun s X hX=>D0 (h.below hX) hn hr o.s o.n s);have HGl:Hid (r=G.length):=qh (hg.rlen bU (by decide)).symm;have Vv:Hid (∀X,σ W.heap.size W X→∀x:Gn,Ζ η 75 #[γ C r rc,φ #[J x.1.1,J x.1.2.1,J x.1.2.2,J x.2.1,J x.2.2.1,J x.2.2.2]] X fun e w'=>∃A' n' c',e=.returned (γ A' n' c')∧aS w' w'.heap.size 6 A' n' c' (ao cj (eA G x))∧σ X.heap.size X w'):=qh (fun X hX x=>vl C r rc G x X (hg.bl hX) (by have:=HGl.out;omega) WY);have Tk:Hid (∀X,σ W.heap.size W X→∀(x y:Gn) C' r' p9,aS X X.heap.size 6 C' r' p9 (ao cj (eA G x))→Ζ η 75 #[γ C' r' p9,φ #[J y.1.1,J y.1.2.1,J y.1.2.2,J y.2.1,J y.2.2.1,J y.2.2.2]] X fun e w'=>∃A' n' c',e=.returned (γ A' n' c')∧aS w' w'.heap.size 6 A' n' c' (ao cj (eA (eA G x) y))∧σ X.heap.size X w'):=qh (fun X hX x y C' r' p9 zp=>vl C' r' p9 (eA G x) y X zp (by have h1:=zp.rlen bU (by decide);have h2:=kS G x hG WY;omega) (fx x WY))
 have Qq:Hid (∀X,σ W.heap.size W X→∀s:Int,Ζ η 77 #[φ #[γ A n c,γ B m k],φ #[J o.s,J o.n,J s]] X (ik X n m (fZ (Vs.map vS) (bg (o.s,o.n) s)) Es)):=qh (fun X hX s=>rl (h.below hX) hn hm hr o.s o.n s)
 have Ry:Hid (∀X (x:D) A' c' B' k' Ws,aO X A' n c' Ws B' m k' Es→Ws.map vS=fZ (Vs.map vS) x→∀s:Int,Ζ η 77 #[φ #[γ A' n c',γ B' m k'],φ #[J o.s,J o.n,J s]] X (ik X n m (fZ (fZ (Vs.map vS) x) (bg (o.s,o.n) s)) Es)):=qh (fun X x A' c' B' k' Ws hd hW s=>by
  have:=rl hd hn hm (rP.to hd (by rw[hW];exact(rP.of h hr).rem x)) o.s o.n s
  rw[hW] at this;exact this)
 have HWo:Hid (∀X (V:List VS) A' c' B' k' Ws,aO X A' n c' Ws B' m k' Es→Ws.map vS=V→Ζ η 47 #[φ #[γ A' n c',γ B' m k'],φ #[J 0,J 0],φ #[J o.s,J o.n]] X fun e w'=>∃v,e=.returned v∧Py (cK V (0,0)) (eI Es (o.s,o.n)) v w'∧σ X.heap.size X w'):=qh (fun X V A' c' B' k' Ws hd hW=>by
  refine(j8 hd (0,0) (o.s,o.n) hn hm).mono ?_
  rintro e w' ⟨A5,n5,c5,B5,m5,k5,rfl,Iy,-,-,hb⟩
  refine⟨_,rfl,⟨A5,n5,c5,B5,m5,k5,_,rfl,Iy,?_⟩,hb⟩
  rw[←hW];unfold cK fo;rw[List.filter_map];rfl)
 have HCz:Hid (∀x y,cK (fZ (fZ (Vs.map vS) x) y) (0,0)=fZ (fZ (Vs.map vS) x) y):=qh (fun x y=>by
  unfold cK fo;refine List.filter_eq_self.2 (fun v hv=>?_);have hk:v.1∈(fZ (fZ (Vs.map vS) x) y).map (·.1):=Α.2 ⟨v,hv,rfl⟩;unfold fZ at hk;rw[gI,gI] at hk;obtain⟨u,hu,e⟩:=Α.1 hk;simpa [←e] using hz u hu)
 obtain⟨V,gV⟩:=az (Vs.map vS);rw[gV] at MB Qq Ry HCz ⊢;have HO:=qh (rfl:aa o=aa o);clear h hr hg WY hz iK gu gV hG;go_enter Tryz.func49,Tryz.ntmps49;go_upto_region 1 with fail
 obtain⟨W0,b0,b1,b2,bJ,bS,cJ,dA,aR,aQ,bj,bn,-,-,j4,-,fD,-,a8,kY,mJ,ni⟩:=jm W 28 [γ A n c,γ B m k,γ C r rc] 36 (aa o) 28 [γ ε 0 0,γ ε 0 0,γ ε 0 0];rw[bJ,dA,cJ,bS];clear bJ bS cJ dA;have x0:=aR.out.cell (i:=0) rfl;have x1:=aR.out.cell (i:=1) rfl;have o1:=aQ.out.cell (i:=1) rfl;have o2:=aQ.out.cell (i:=2) rfl
 go_upto_region 2 with (first
  |(go_at_call 30
    refine(HE.out _ bn.out).mono ?_
    rintro e w2 ⟨rfl,ar⟩;have cX:=qh ar;clear ar x0 x1 o1 o2))
 have ar:=cX.out;have iT:=qh (aF (af bn.out ar) (δ #[J i1,J i2,μ lb,J at_] 67));have kh:=qh ((aR.out.bl ar).al (δ #[J i1,J i2,μ lb,J at_] 67));have lh:=qh ((aQ.out.bl ar).al (δ #[J i1,J i2,μ lb,J at_] 67));have jK:=qh ((bj.out.bl ar).al (δ #[J i1,J i2,μ lb,J at_] 67));obtain⟨W1,a7⟩:=az (w2.alloc (δ #[J i1,J i2,μ lb,J at_] 67));obtain⟨b3,oR⟩:=az w2.heap.size;rw[a7] at iT kh lh jK ⊢;rw[oR];clear a7 oR ar cX aR aQ bj bn HE;cases ok with
 |false=>
  rw[if_pos rfl];have z0:=jK.out.cell (i:=0) rfl;have z1:=jK.out.cell (i:=1) rfl;have z2:=jK.out.cell (i:=2) rfl;have y0:=jK.out.free 0;have y1:=jK.out.free 1;have y2:=jK.out.free 2;go_wp2;exact aE rfl b2 rfl rfl (((jK.out.set_ 0 (γ ε 0 0)).set_ 1 (γ ε 0 0)).set_ 2 (γ ε 0 0)) Tryz.underlying28 rfl (by kernel_rfl) rfl ⟨ε,0,0,ε,0,0,ε,0,0,[],rfl,dM _,rfl,aS.no _ _ _,((iT.out.setCell (p:=⟨b2,0,ε⟩) a8.out (γ ε 0 0)).setCell (p:=⟨b2,1,ε⟩) a8.out (γ ε 0 0)).setCell (p:=⟨b2,2,ε⟩) a8.out (γ ε 0 0)⟩
 |true=>
  rw[if_neg (show ¬true=ρ by decide)];have o1:=lh.out.cell (i:=1) rfl;have o2:=lh.out.cell (i:=2) rfl;go_upto_region 5 with fail
  clear o1 o2;have jJ:=qh (aF iT.out (δ #[J o.s,J o.n,J 0] 32));have Lm:=qh (kh.out.al (δ #[J o.s,J o.n,J 0] 32));have zJ:=qh (lh.out.al (δ #[J o.s,J o.n,J 0] 32));have Kx:=qh (jK.out.al (δ #[J o.s,J o.n,J 0] 32));have IA:=qh (Whole.new_ W1 32 [J o.s,J o.n,J 0]);have BV:Hid (W.heap.size≤W1.heap.size):=qh iT.out.size;obtain⟨W4,di⟩:=az (W1.alloc (δ #[J o.s,J o.n,J 0] 32));obtain⟨b4,dD⟩:=az W1.heap.size;rw[di] at jJ Lm zJ Kx IA ⊢;rw[dD] at IA BV ⊢;clear di dD iT kh lh jK;have o1:=zJ.out.cell (i:=1) rfl;have o2:=zJ.out.cell (i:=2) rfl;go_upto_region 6 with fail
  clear o1 o2;have js:=qh (aF jJ.out (δ #[J o.s,J o.n,J 1] 32));have wg:=qh (Lm.out.al (δ #[J o.s,J o.n,J 1] 32));have Dq:=qh (zJ.out.al (δ #[J o.s,J o.n,J 1] 32));have Cu:=qh (Kx.out.al (δ #[J o.s,J o.n,J 1] 32));have Jx:=qh (IA.out.al (δ #[J o.s,J o.n,J 1] 32));have Gj:=qh (Whole.new_ W4 32 [J o.s,J o.n,J 1]);have BX:Hid (W.heap.size≤W4.heap.size):=qh jJ.out.size;obtain⟨W5,di⟩:=az (W4.alloc (δ #[J o.s,J o.n,J 1] 32));obtain⟨b5,dD⟩:=az W4.heap.size;rw[di] at js wg Dq Cu Jx Gj ⊢;rw[dD] at Gj BX ⊢;clear di dD jJ Lm zJ Kx IA;have iM:=dX (i:=2) wg.out rfl;refine aw (aT) (by kernel_rfl) ?_;refine aq 0 ?_;refine aq 1 ?_;refine bN 2 (hy:=bG (by rfl) 32 (.tmp 8) rfl b4 rfl 32 [J o.s,J o.n,J 0] _ (fun w' h=>h.whole Jx.out.dr (fun h=>h)) Tryz.underlying32 rfl (by kernel_rfl)) (h:=?_);refine aq 3 ?_;refine bN 4 (hy:=bA (by rfl) 25 (.tmp 32) rfl ⟨b0,0,ε⟩ rfl [γ A n c,γ B m k] _ (fun w' h i u hu=>(h.whole wg.out.dr (fun h=>h)).sub_ 0 hu) Tryz.underlying25 rfl (by kernel_rfl)) (h:=?_);refine bN 5 (hy:=bG (by rfl) 32 (.tmp 8) rfl b4 rfl 32 [J o.s,J o.n,J 0] _ (fun w' h=>h.whole Jx.out.dr (fun h=>h)) Tryz.underlying32 rfl (by kernel_rfl)) (h:=?_)
  refine bN 6 (hy:=by apply cz;rfl;rotate_left;intro w' aC;exact MB.out 0 w' (af js.out ((Θ _ W5).drew.trans (aC.below (Δ _) (fun _ _ q=>q))));intro w';go_simp) (h:=?_);refine aq 7 ?_;refine rU 8 ?_;intro w' aC;have hx:=(Θ _ W5).drew.trans aC
  refine(Vv.out w' (af js.out hx) (bg (o.s,o.n) 0,dz V (bg (o.s,o.n) 0))).mono ?_
  rintro e w9 ⟨Ca,ra,ca,rfl,mO,nM⟩
  refine⟨_,rfl,Kept.of_below nM,?_⟩
  have S5:=qh mO;have LC:Hid (σ W5.heap.size W5 w9):=qh (Ext.trans hx nM);clear hx aC mO nM Vv;simp only[ξ,ak,aj,ah];refine aq 9 ?_;refine aG (by kernel_rfl) ?_ _;intro w6 Yi;have HGb:=qh (S5.out.bl Yi);have Kj:Hid (σ W5.heap.size W5 w6):=qh (Ext.trans LC.out Yi);clear S5 LC Yi;go_upto_region 7 with fail
  have yo:=qh (wg.out.bl Kj.out);have E6:=qh (Dq.out.bl Kj.out);have Fm:=qh (Cu.out.bl Kj.out);have O4:=qh (Jx.out.bl Kj.out);have M9:=qh (Gj.out.bl Kj.out);have qX:=qh (af js.out Kj.out);clear Kj js wg Dq Cu Jx Gj;refine aw (aT) (by kernel_rfl) ?_;refine aq 0 ?_;refine bN 1 (hy:=bG (by rfl) 32 (.tmp 9) rfl b5 rfl 32 [J o.s,J o.n,J 1] _ (fun w' h=>h.whole M9.out.dr (fun h=>h)) Tryz.underlying32 rfl (by kernel_rfl)) (h:=?_);refine aq 2 ?_;refine bN 3 (hy:=bA (by rfl) 25 (.tmp 40) rfl ⟨b0,0,ε⟩ rfl [γ A n c,γ B m k] _ (fun w' h i u hu=>(h.whole yo.out.dr (fun h=>h)).sub_ 0 hu) Tryz.underlying25 rfl (by kernel_rfl)) (h:=?_);refine bN 4 (hy:=bG (by rfl) 32 (.tmp 9) rfl b5 rfl 32 [J o.s,J o.n,J 1] _ (fun w' h=>h.whole M9.out.dr (fun h=>h)) Tryz.underlying32 rfl (by kernel_rfl)) (h:=?_);refine bN 5 (hy:=by apply cz;rfl;rotate_left;intro w' aC;exact MB.out 1 w' (af qX.out ((Θ _ w6).drew.trans (aC.below (Δ _) (fun _ _ q=>q))));intro w';go_simp) (h:=?_);refine aq 6 ?_;refine rU 7 ?_;intro w' aC;have hx:=(Θ _ w6).drew.trans aC
  refine(Tk.out w' (af qX.out hx) (bg (o.s,o.n) 0,dz V (bg (o.s,o.n) 0)) (bg (o.s,o.n) 1,dz V (bg (o.s,o.n) 1)) _ _ _ (HGb.out.bl hx)).mono ?_
  rintro e w9 ⟨Cd,rd,cd,rfl,mO,nM⟩
  refine⟨_,rfl,Kept.of_below nM,?_⟩
  have HGd:=qh mO;have wE:Hid (σ w6.heap.size w6 w9):=qh (Ext.trans hx nM);clear hx aC mO nM Tk;simp only[ξ,ak,aj,ah];refine aq 8 ?_;refine aG (by kernel_rfl) ?_ _;intro w7 YO;have Ix:=qh (HGd.out.bl YO);have Sz:Hid (σ w6.heap.size w6 w7):=qh (Ext.trans wE.out YO);clear HGd wE YO HGb;go_upto_region 8 with fail
  have vn:=qh (yo.out.bl Sz.out);have uv:=qh (E6.out.bl Sz.out);have zu:=qh (Fm.out.bl Sz.out);have yd:=qh (O4.out.bl Sz.out);have E4:=qh (M9.out.bl Sz.out);have OT:=qh (af qX.out Sz.out);clear Sz qX MB yo E6 Fm O4 M9;have mS:Hid (∀y,Ext w7.drew y→y.cell? ⟨b0,0,ε⟩=ζ (γ A n c)∧y.cell? ⟨b0,1,ε⟩=ζ (γ B m k)∧y.cell? ⟨b1,1,ε⟩=ζ (J o.s)∧y.cell? ⟨b1,2,ε⟩=ζ (J o.n)∧y.cell? ⟨b4,0,ε⟩=ζ (J o.s)∧y.cell? ⟨b4,1,ε⟩=ζ (J o.n)∧y.cell? ⟨b4,2,ε⟩=ζ (J 0)∧y.cell? ⟨b5,0,ε⟩=ζ (J o.s)∧y.cell? ⟨b5,1,ε⟩=ζ (J o.n)∧y.cell? ⟨b5,2,ε⟩=ζ (J 1)):=qh (fun y hy=>⟨(vn.out.dr.bl hy).cell (i:=0) rfl,(vn.out.dr.bl hy).cell (i:=1) rfl,(uv.out.dr.bl hy).cell (i:=1) rfl,(uv.out.dr.bl hy).cell (i:=2) rfl,(yd.out.dr.bl hy).cell (i:=0) rfl,(yd.out.dr.bl hy).cell (i:=1) rfl,(yd.out.dr.bl hy).cell (i:=2) rfl,(E4.out.dr.bl hy).cell (i:=0) rfl,(E4.out.dr.bl hy).cell (i:=1) rfl,(E4.out.dr.bl hy).cell (i:=2) rfl⟩)
  refine jG 11 (dS w7.heap.size) (yU [fun v W=>v=υ (ζ ⟨b0,0,ε⟩),fun v W=>v=φ #[γ A n c,γ B m k],fun v W=>v=φ #[J o.s,J o.n,J 0],fun v W=>E0 n m (fZ V (bg (o.s,o.n) 0)) Es (v) (W),fun v W=>v=φ #[J o.s,J o.n,J 1],fun v W=>E0 n m (fZ (fZ V (bg (o.s,o.n) 0)) (bg (o.s,o.n) 1)) Es (v) (W),fun v W=>v=φ #[J 0,J 0],fun v W=>v=υ (ζ ⟨b1,1,ε⟩),fun v W=>v=φ #[J o.s,J o.n],fun v W=>Py (cK (fZ (fZ V (bg (o.s,o.n) 0)) (bg (o.s,o.n) 1)) (0,0)) (eI Es (o.s,o.n)) (v) (W),fun v W=>∃q,v=υ (ζ ⟨q,0,ε⟩)∧w7.heap.size≤q∧Whole (W) q 25 [γ ε 0 0,γ ε 0 0]]) (Ext w7.drew) (by kernel_rfl) (by kernel_rfl) (by kernel_rfl) (by kernel_rfl) (by kernel_rfl) (pw (by
   intro Q hQ v w1 w2 h hx;simp only[List.mem_cons,List.not_mem_nil,or_false] at hQ;rcases hQ with rfl|rfl|rfl|rfl|rfl|rfl|rfl|rfl|rfl|rfl|rfl
   ·exact(fun v w1 w2 h hx=>h) v w1 w2 h hx
   ·exact(fun v w1 w2 h hx=>h) v w1 w2 h hx
   ·exact(fun v w1 w2 h hx=>h) v w1 w2 h hx
   ·exact(fun v w1 w2 h hx=>h.up hx) v w1 w2 h hx
   ·exact(fun v w1 w2 h hx=>h) v w1 w2 h hx
   ·exact(fun v w1 w2 h hx=>h.up hx) v w1 w2 h hx
   ·exact(fun v w1 w2 h hx=>h) v w1 w2 h hx
   ·exact(fun v w1 w2 h hx=>h) v w1 w2 h hx
   ·exact(fun v w1 w2 h hx=>h) v w1 w2 h hx
   ·exact(fun v w1 w2 h hx=>h.up hx) v w1 w2 h hx
   ·exact(fun v w1 w2 h hx=>(by obtain⟨q,e1,e2,e3⟩:=h;exact⟨q,e1,e2,e3.bl hx⟩)) v w1 w2 h hx)) (fun _ _ h k=>h.trans k) (Ext.refl _) ?_ ?_
  ·intro i Mt;have jc:i=0∨i=1∨i=2∨i=3∨i=4∨i=5∨i=6∨i=7∨i=8∨i=9∨i=10:=by omega
   rcases jc with rfl|rfl|rfl|rfl|rfl|rfl|rfl|rfl|rfl|rfl|rfl
   ·refine aL ?_;intro xf y hg aH;simp only[aM,ι,π,aB,ξ,ak,aj,ah];refine .inl ⟨by rfl,?_⟩;go_simp;exact⟨Ext.refl _,rfl⟩
   ·refine aL ?_;intro xf y hg aH;have d0:xf 0=υ (ζ ⟨b0,0,ε⟩):=aH 0 (by decide);obtain⟨tT,pC,nD,tW,Eu,Mk,EZ,Mg,Zj,Mj⟩:=mS.out _ hg;simp only[aM,ι,π,aB,ξ,ak,aj,ah];simp only[d0];refine .inl ⟨by rfl,?_⟩;go_simp;exact⟨Ext.refl _,rfl⟩
   ·refine aL ?_;intro xf y hg aH;obtain⟨tT,pC,nD,tW,Eu,Mk,EZ,Mg,Zj,Mj⟩:=mS.out _ hg;simp only[aM,ι,π,aB,ξ,ak,aj,ah];refine .inl ⟨by rfl,?_⟩;go_simp;exact⟨Ext.refl _,rfl⟩
   ·refine aL ?_;intro xf y hg aH;have d1:xf 1=φ #[γ A n c,γ B m k]:=aH 1 (by decide);have d2:xf 2=φ #[J o.s,J o.n,J 0]:=aH 2 (by decide);simp only[aM,ι,π,aB,ξ,ak,aj,ah];simp only[d1,d2];refine .inl ⟨by rfl,dy (by go_simp;first|done|exact⟨rfl,rfl⟩|with_reducible rfl) ?_⟩
    refine(Qq.out y (af (ba OT.out) hg) 0).mono ?_
    rintro e w2 ⟨A3,c3,B3,k3,Xn,rfl,OX,PM,-,-,-,hb⟩
    refine⟨_,rfl,hb,?_⟩
    show E0 n m (fZ V (bg (o.s,o.n) 0)) Es ((_:Value)) (w2);exact⟨A3,c3,B3,k3,Xn,rfl,OX,PM⟩
   ·refine aL ?_;intro xf y hg aH;obtain⟨tT,pC,nD,tW,Eu,Mk,EZ,Mg,Zj,Mj⟩:=mS.out _ hg;simp only[aM,ι,π,aB,ξ,ak,aj,ah];refine .inl ⟨by rfl,?_⟩;go_simp;exact⟨Ext.refl _,rfl⟩
   ·refine aL ?_;intro xf y hg aH;obtain⟨A3,c3,B3,k3,Xn,d3,OX,PM⟩:E0 n m (fZ V (bg (o.s,o.n) 0)) Es (xf 3) (y):=aH 3 (by decide);have d4:xf 4=φ #[J o.s,J o.n,J 1]:=aH 4 (by decide);obtain⟨A3,c3,B3,k3,Xn,d3,OX,PM⟩:E0 n m (fZ V (bg (o.s,o.n) 0)) Es (xf 3) (y):=aH 3 (by decide);simp only[aM,ι,π,aB,ξ,ak,aj,ah];simp only[d3,d4,d3];refine .inl ⟨by rfl,dy (by go_simp;first|done|exact⟨rfl,rfl⟩|with_reducible rfl) ?_⟩
    refine(Ry.out y (bg (o.s,o.n) 0) A3 c3 B3 k3 Xn OX PM 1).mono ?_
    rintro e w2 ⟨A5,c5,B5,k5,Mo,rfl,Nl,Ny,-,-,-,hb⟩
    refine⟨_,rfl,hb,?_⟩
    show E0 n m (fZ (fZ V (bg (o.s,o.n) 0)) (bg (o.s,o.n) 1)) Es ((_:Value)) (w2);exact⟨A5,c5,B5,k5,Mo,rfl,Nl,Ny⟩
   ·refine aL ?_;intro xf y hg aH;simp only[aM,ι,π,aB,ξ,ak,aj,ah];refine .inl ⟨by rfl,?_⟩;go_simp;exact⟨Ext.refl _,rfl⟩
   ·refine aL ?_;intro xf y hg aH;simp only[aM,ι,π,aB,ξ,ak,aj,ah];refine .inl ⟨by rfl,?_⟩;go_simp;exact⟨Ext.refl _,rfl⟩
   ·refine aL ?_;intro xf y hg aH;have d7:xf 7=υ (ζ ⟨b1,1,ε⟩):=aH 7 (by decide);obtain⟨tT,pC,nD,tW,Eu,Mk,EZ,Mg,Zj,Mj⟩:=mS.out _ hg;simp only[aM,ι,π,aB,ξ,ak,aj,ah];simp only[d7];refine .inl ⟨by rfl,?_⟩;go_simp;exact⟨Ext.refl _,rfl⟩
   ·refine aL ?_;intro xf y hg aH;obtain⟨A5,c5,B5,k5,Mo,d5,Nl,Ny⟩:E0 n m (fZ (fZ V (bg (o.s,o.n) 0)) (bg (o.s,o.n) 1)) Es (xf 5) (y):=aH 5 (by decide);have d6:xf 6=φ #[J 0,J 0]:=aH 6 (by decide);have d8:xf 8=φ #[J o.s,J o.n]:=aH 8 (by decide);obtain⟨A5,c5,B5,k5,Mo,d5,Nl,Ny⟩:E0 n m (fZ (fZ V (bg (o.s,o.n) 0)) (bg (o.s,o.n) 1)) Es (xf 5) (y):=aH 5 (by decide);simp only[aM,ι,π,aB,ξ,ak,aj,ah];simp only[d5,d6,d8,d5];refine .inl ⟨by rfl,dy (by go_simp;first|done|exact⟨rfl,rfl⟩|with_reducible rfl) ?_⟩
    refine(HWo.out y _ A5 c5 B5 k5 Mo Nl Ny).mono ?_
    rintro e w2 ⟨v,rfl,hu,hb⟩
    refine⟨_,rfl,hb,?_⟩
    show Py (cK (fZ (fZ V (bg (o.s,o.n) 0)) (bg (o.s,o.n) 1)) (0,0)) (eI Es (o.s,o.n)) ((_:Value)) (w2);exact hu
   ·refine aL ?_;intro xf y hg aH;simp only[aM,ι,π,aB,ξ,ak,aj,ah];refine .inl ⟨by rfl,gZ (w':=y.alloc (δ #[γ ε 0 0,γ ε 0 0] 25)) (by go_simp;first|done|exact rfl|exact⟨rfl,rfl⟩) (ax _ _) ?_⟩;show ∃q,(_:Value)=υ (ζ ⟨q,0,ε⟩)∧w7.heap.size≤q∧Whole (y.alloc (δ #[γ ε 0 0,γ ε 0 0] 25)) q 25 [γ ε 0 0,γ ε 0 0]
    exact⟨y.heap.size,rfl,hg.size,Whole.new_ _ _ [γ ε 0 0,γ ε 0 0]⟩
  intro xf y hg bW;obtain⟨A9,n9,c9,B9,m9,k9,Aj,d9,hd9,hm9⟩:Py (cK (fZ (fZ V (bg (o.s,o.n) 0)) (bg (o.s,o.n) 1)) (0,0)) (eI Es (o.s,o.n)) (xf 9) (y):=bW 9 (by decide);obtain⟨gr,d10,AD,wT⟩:∃q,xf 10=υ (ζ ⟨q,0,ε⟩)∧w7.heap.size≤q∧Whole (y) q 25 [γ ε 0 0,γ ε 0 0]:=bW 10 (by decide)
  simp only[aM,ι,π,aB,ξ,ak,aj,ah];simp only[d9,d10];clear bW d9 d10;have tz:=qh hd9;have Yz:=qh hm9;have UT:=qh (Ix.out.dr.bl hg);clear hd9 hm9;have mV:=qh wT;have tg:=qh (af (ba (Θ _ w7)) hg);have jD:Hid (w7.heap.size≤gr):=qh AD;clear AD wT;refine lp 11 ?_;intro w' aC
  refine⟨w'.setRow gr #[γ A9 n9 c9,γ B9 m9 k9],cn 25 (.tmp 11) (.tmp 55) rfl gr rfl [γ A9 n9 c9,γ B9 m9 k9] rfl 25 [γ ε 0 0,γ ε 0 0] (mV.out.bl aC) (by kernel_rfl) rfl (by simp[Value.oneCell']),eD (show w7.heap.size≤gr from jD.out) _,?_⟩
  have qp:Hid (Whole (w'.setRow gr #[γ A9 n9 c9,γ B9 m9 k9]) gr 25 [γ A9 n9 c9,γ B9 m9 k9]):=qh (Whole.row (mV.out.bl aC) [γ A9 n9 c9,γ B9 m9 k9]);have j6:Hid (σ w7.heap.size w7 (w'.setRow gr #[γ A9 n9 c9,γ B9 m9 k9])):=qh (eB (af tg.out aC) jD.out _);have vW:=qh (sI (tz.out.bl aC) (mV.out.bl aC) (ib (fun i=>by simp) (fun i=>by simp)) #[γ A9 n9 c9,γ B9 m9 k9]);have IZ:=qh ((UT.out.bl aC).row_far (lB (xr (UT.out.bl aC) (mV.out.bl aC) (ib (fun i=>by simp) (fun i=>by simp)))) #[γ A9 n9 c9,γ B9 m9 k9]);obtain⟨V1,jr⟩:=az (w'.setRow gr #[γ A9 n9 c9,γ B9 m9 k9]);rw[jr] at qp j6 vW IZ ⊢;clear aC jr mV tg;refine aG (by kernel_rfl) ?_ _;intro W8 ch;have pG:=qh (qp.out.bl ch);have jX:=qh (af j6.out ch);have tz:=qh (vW.out.bl ch);have UT:=qh (IZ.out.bl ch);clear vW IZ;clear ch qp j6;have og:=qh (zu.out.bl jX.out);have pH:=qh (af OT.out jX.out);clear vn uv zu yd E4 jX mS OT Ix Qq Ry HWo;obtain⟨W9,MF⟩:=az W8;rw[MF] at og pH pG tz UT ⊢;clear MF W8;have z0:=og.out.cell (i:=0) rfl;have z1:=og.out.cell (i:=1) rfl;have z2:=og.out.cell (i:=2) rfl;have y0:=og.out.free 0;have y1:=og.out.free 1;have y2:=og.out.free 2;have q0:=pG.out.cell (i:=0) rfl;have q1:=pG.out.cell (i:=1) rfl;go_wp2;have HCq:=HCz.out (bg (o.s,o.n) 0) (bg (o.s,o.n) 1);have k0:=aP (a:=γ ε 0 0) (b:=γ ε 0 0) (d:=γ ε 0 0) (fun i=>by simp) (fun i=>by simp) (fun i=>by simp)
  have k1:=aP (a:=γ A9 n9 c9) (b:=γ ε 0 0) (d:=γ ε 0 0) (fun i=>by simp) (fun i=>by simp) (fun i=>by simp);have k2:=aP (a:=γ A9 n9 c9) (b:=γ B9 m9 k9) (d:=γ ε 0 0) (fun i=>by simp) (fun i=>by simp) (fun i=>by simp);have s0:=og.out;have s1:=s0.set_ 0 (γ A9 n9 c9);have s2:=s1.set_ 1 (γ B9 m9 k9);exact aE rfl b2 rfl rfl (s2.set_ 2 (γ Cd rd cd)) Tryz.underlying28 rfl (by kernel_rfl) rfl ⟨A9,n9,c9,B9,m9,k9,Cd,rd,cd,Aj,rfl,bf (bf (bf tz.out s0 k0 0 _) s1 k1 1 _) s2 k2 2 _,Yz.out.trans HCq,bu (bu (bu UT.out s0 k0 0 _) s1 k1 1 _) s2 k2 2 _,((pH.out.setCell (p:=⟨b2,0,ε⟩) a8.out (γ A9 n9 c9)).setCell (p:=⟨b2,1,ε⟩) a8.out (γ B9 m9 k9)).setCell (p:=⟨b2,2,ε⟩) a8.out (γ Cd rd cd)⟩
end Go.Proofs.YtpdpbfmiahjiiaaGreat
