/- Several texts in one. -/
import Derived.Test.YtpdpbfmiahjiiaaGreatPsAB
import Derived.Test.YtpdpbfmiahjiiaaGreatPsAT
set_option linter.unusedSectionVars false
set_option linter.unusedSimpArgs false
set_option linter.unusedVariables false
set_option maxRecDepth 100000
set_option maxHeartbeats 16000000
namespace Go.Proofs.YtpdpbfmiahjiiaaGreat
open Go.RowKit
open _root_.Go.Value renaming slice→γ,agg→φ,bool→Β
open _root_.Go.Obj renaming cells→δ
open _root_.Option renaming none→ε,some→ζ
open _root_.Go.Proofs.Tryz renaming prog→η
open _root_.List renaming getElem?_eq_getElem→θ,getElem?_eq_some_iff→ν,mem_cons→Η,drop_eq_getElem_cons→Χ,getElem?_map→Ψ,mem_cons_self→Jai,drop_of_length_le→Jak,length_take→JaA,not_mem_nil→Jbh
open _root_.Go.Act renaming put→ξ
open _root_.Go renaming World→ο,Addr→Κ,maxLen→Jap
open _root_.Bool renaming false→ρ
open _root_.Go.RowKit renaming Below→σ
open _root_.Go.RowKit.Below renaming refl→Θ
open _root_.Nat renaming le_trans→Λ,zero_le→Jas,lt_of_lt_of_le→JaK,sub_self→JaP
theorem neqI_run (a b x y:Int) (X:ο):(binOp .neq 30 (φ #[J a,J b]) (φ #[J x,J y])).run η X=.ok (Β (!decide ((a,b)=(x,y)))) X:=by
 by_cases h1:a=x
 ·by_cases h2:b=y
  ·simp[go_sem,h1,h2]
  ·simp[go_sem,h1,h2]
 ·simp[go_sem,h1]
theorem cutK_cons {α:Type} (nm:α→Nm) (y:α) (l:List α) (x:Nm):CL nm (y::l) x=(if nm y=x then[] else[y])++CL nm l x:=by
 unfold CL
 by_cases h:nm y=x
 ·rw[if_pos h,List.filter_cons_of_neg (by simp[h])];rfl
 ·rw[if_neg h,List.filter_cons_of_pos (by simp[h])];rfl
theorem rwithout_any {W:ο} {A:Option Κ} {n c:Nat} {Vs:List VC} {B:Option Κ} {m k:Nat} {Es:List EC} (h:bz W A n c Vs B m k Es) (p q:Nm) (hn:n≤1000) (hm:m≤1000):
 Calls η 47 #[φ #[γ A n c,γ B m k],φ #[J p.1,J p.2],φ #[J q.1,J q.2]] W fun e w'=>∃A' n' c' B' m' k',e=.returned (φ #[γ A' n' c',γ B' m' k'])∧bz w' A' n' c' (CL (fun v:VC=>v.1) Vs p) B' m' k' (CL (fun v:EC=>v.1) Es q)∧c'≤Jap∧k'≤Jap∧σ W.heap.size W w':=by
 obtain⟨ivV,hiV,hz0V,hz1V,hz2V⟩:=aW lP;obtain⟨ivE,hiE,hz0E,hz1E,hz2E⟩:=aW pK;have HV:=qh h.v;have HE:=qh h.e;have HR:=qh h.r;have HLV:=qh (h.v.rlen aS (by decide));have VE:=qh (h.e.rlen bM (by decide));clear h;go_enter Tryz.func47,Tryz.ntmps47;go_upto_region 1 with fail
 have lQ:Whole ((((W.alloc (δ #[γ A n c,γ B m k] 25)).alloc (δ #[J p.1,J p.2] 30)).alloc (δ #[J q.1,J q.2] 30)).alloc (δ #[γ ε 0 0,γ ε 0 0] 25)) (W.heap.size) 25 [γ A n c,γ B m k]:=((((Whole.new_ W 25 [γ A n c,γ B m k]).al (δ #[J p.1,J p.2] 30)).al (δ #[J q.1,J q.2] 30)).al (δ #[γ ε 0 0,γ ε 0 0] 25));have jq:Whole ((((W.alloc (δ #[γ A n c,γ B m k] 25)).alloc (δ #[J p.1,J p.2] 30)).alloc (δ #[J q.1,J q.2] 30)).alloc (δ #[γ ε 0 0,γ ε 0 0] 25)) (W.heap.size+1) 30 [J p.1,J p.2]:=(((Whole.new2 (w:=(W.alloc (δ #[γ A n c,γ B m k] 25))) (cs:=[J p.1,J p.2]) (by simp)).al (δ #[J q.1,J q.2] 30)).al (δ #[γ ε 0 0,γ ε 0 0] 25));have uU:Whole ((((W.alloc (δ #[γ A n c,γ B m k] 25)).alloc (δ #[J p.1,J p.2] 30)).alloc (δ #[J q.1,J q.2] 30)).alloc (δ #[γ ε 0 0,γ ε 0 0] 25)) (W.heap.size+1+1) 30 [J q.1,J q.2]:=((Whole.new2 (w:=((W.alloc (δ #[γ A n c,γ B m k] 25)).alloc (δ #[J p.1,J p.2] 30))) (cs:=[J q.1,J q.2]) (by simp)).al (δ #[γ ε 0 0,γ ε 0 0] 25));have hx3:Whole ((((W.alloc (δ #[γ A n c,γ B m k] 25)).alloc (δ #[J p.1,J p.2] 30)).alloc (δ #[J q.1,J q.2] 30)).alloc (δ #[γ ε 0 0,γ ε 0 0] 25)) (W.heap.size+1+1+1) 25 [γ ε 0 0,γ ε 0 0]:=(Whole.new2 (w:=(((W.alloc (δ #[γ A n c,γ B m k] 25)).alloc (δ #[J p.1,J p.2] 30)).alloc (δ #[J q.1,J q.2] 30))) (cs:=[γ ε 0 0,γ ε 0 0]) (by simp))
 have oI:σ W.heap.size W ((((W.alloc (δ #[γ A n c,γ B m k] 25)).alloc (δ #[J p.1,J p.2] 30)).alloc (δ #[J q.1,J q.2] 30)).alloc (δ #[γ ε 0 0,γ ε 0 0] 25)):=(aI (aI (aI (az W _) _) _) _);obtain⟨W0,bO⟩:=aB (((((W.alloc (δ #[γ A n c,γ B m k] 25)).alloc (δ #[J p.1,J p.2] 30)).alloc (δ #[J q.1,J q.2] 30)).alloc (δ #[γ ε 0 0,γ ε 0 0] 25)));rw[bO] at lQ jq uU hx3 oI ⊢;obtain⟨b3,Z6⟩:=aB (W.heap.size+1+1+1);rw[Z6] at hx3 ⊢;obtain⟨b2,jc⟩:=aB (W.heap.size+1+1);rw[jc] at uU ⊢;obtain⟨b1,dE⟩:=aB (W.heap.size+1);rw[dE] at jq ⊢;obtain⟨b0,bp⟩:=aB W.heap.size;rw[bp] at lQ ⊢;have aQ:=qh lQ;have aL:=qh jq;have aZ:=qh uU;have cF:=qh hx3;have bw:=qh oI;have oa:Hid (W.heap.size≤b0):=qh (by omega);have iP:Hid (W.heap.size≤b1):=qh (by omega);have eI:Hid (W.heap.size≤b2):=qh (by omega);have Lb3:Hid (W.heap.size≤b3):=qh (by omega);have uW:Hid (b0≠b1):=qh (by omega);have RA:Hid (b0≠b2):=qh (by omega);have N03:Hid (b0≠b3):=qh (by omega);have tU:Hid (b1≠b2):=qh (by omega);have N13:Hid (b1≠b3):=qh (by omega);have N23:Hid (b2≠b3):=qh (by omega);clear bO oI lQ jq uU hx3 bp dE jc Z6;go_upto_region 2 with fail
 have bB:=qh (aI bw.out (δ #[γ ε 0 0,γ ε 0 0] 25));have HX:Hid (Bx (W0.alloc (δ #[γ ε 0 0,γ ε 0 0] 25)) [(b0,25,[γ A n c,γ B m k]),(b1,30,[J p.1,J p.2]),(b2,30,[J q.1,J q.2]),(b3,25,[γ ε 0 0,γ ε 0 0])]):=qh ⟨aQ.out.al _,aL.out.al _,aZ.out.al _,cF.out.al _,trivial⟩;have H3:=qh (Whole.new_ W0 25 [γ ε 0 0,γ ε 0 0])
 have HLtV:Hid (∀p_∈([(b0,25,[γ A n c,γ B m k]),(b1,30,[J p.1,J p.2]),(b2,30,[J q.1,J q.2]),(b3,25,[γ ε 0 0,γ ε 0 0])]:List (Nat × TypeId × List Value)),p_.1<W0.heap.size+1∧p_.1≠W0.heap.size):=qh (fun p_ hp=>by
  have h0:=aQ.out.lt;have h1:=aL.out.lt;have h2:=aZ.out.lt;have h3:=cF.out.lt;simp only[Η,Jbh,or_false] at hp;rcases hp with rfl|rfl|rfl|rfl
  ·exact⟨by show b0<_;omega,by show b0≠_;omega⟩
  ·exact⟨by show b1<_;omega,by show b1≠_;omega⟩
  ·exact⟨by show b2<_;omega,by show b2≠_;omega⟩
  ·exact⟨by show b3<_;omega,by show b3≠_;omega⟩)
 have HO:Hid (Ow W (W0.heap.size+1) 59 5 (γ ε 0 0) 0 (ah vC []) (W0.alloc (δ #[γ ε 0 0,γ ε 0 0] 25))):=qh ⟨World.ownsRow_nil _ _ _ _,bB.out,Λ bw.out.size (Nat.le_succ _),by simp⟩;have LWV:Hid (W.heap.size≤W0.heap.size+1):=qh (Λ bw.out.size (Nat.le_succ _));have TL:Hid (W.heap.size≤W0.heap.size):=qh bw.out.size;have L3V:Hid (W0.heap.size<W0.heap.size+1):=qh (Nat.lt_succ_self _);obtain⟨lo,Su⟩:=aB (W0.heap.size+1);obtain⟨w3,gw3⟩:=aB (W0.alloc (δ #[γ ε 0 0,γ ε 0 0] 25));obtain⟨b4,BJ⟩:=aB W0.heap.size;rw[gw3] at HX H3 HO ⊢;rw[Su] at HLtV HO LWV L3V;rw[BJ] at H3 HLtV TL L3V ⊢;clear gw3 Su BJ aQ aL aZ cF bw bB;go_upto_region 3 with fail
 go_loopw [8] (fun vi wr=>∃(j:Nat) (D3:Option Κ) (n3 d3:Nat) (T:List VC),j≤n∧n3≤j∧vi=J (j:Int)∧Hid (Bx wr [(b0,25,[γ A n c,γ B m k]),(b1,30,[J p.1,J p.2]),(b2,30,[J q.1,J q.2]),(b3,25,[γ ε 0 0,γ ε 0 0])])∧Hid (Whole wr b4 25 [γ D3 n3 d3,γ ε 0 0])∧Hid (Ow W lo 59 5 (γ D3 n3 d3) n3 (ah vC T) wr)∧Hid (CL (fun v:VC=>v.1) Vs p=T++CL (fun v:VC=>v.1) (Vs.drop j) p)) (fun vi _=>n - (intOf vi).toNat)
 case atStart=>exact⟨0,ε,0,0,[],Jas _,Jas _,rfl,HX,H3,HO,qh rfl⟩
 case round=>
  clear HX H3 HO;obtain⟨j,D3,n3,d3,T,hj,hn3,rfl,HX,H3,HO,HN⟩:=hrel;obtain⟨wo,cS⟩:=aB wr;rw[cS] at HX H3 HO ⊢;clear cS;have c0:=HX.out.1.cell (i:=0) rfl
  by_cases nT:j<n
  ·have ya:(j:Int)<(n:Int):=by omega
   obtain⟨y,hy⟩:∃y,Vs[j]? =ζ y:=⟨_,θ (by have:=HLV.out;omega)⟩
   have hN:=HN.out;rw[Χ (ν.1 hy).1,(ν.1 hy).2,cutK_cons] at hN;obtain⟨bb,off,rfl,aY,a8⟩:=HV.out.place aS (by decide) (by omega);have HP:=qh (a8 j _ hy)
   have HPi:Hid (∀w',Kept aO wo.drew w'→∀i u,[J y.1.1,J y.1.2][i]? =ζ u→w'.cell? ((⟨bb,off+j*5,ε⟩:Κ).add i)=ζ u):=qh (fun w' h i u hu=>h.nil_cell ((HO.out.below.cell (by rw[en];exact aY)).trans (a8 j _ hy i u (by
    rcases i with _|_|i
    ·exact hu
    ·exact hu
    ·simp at hu))))
   clear hy a8 HN;have hq:=neqI_run y.1.1 y.1.2 p.1 p.2
   by_cases Tl:y.1=p
   ·have HQ:=qh (fun X=>(hq X).trans (by rw[decide_eq_true (show(y.1.1,y.1.2)=(p.1,p.2) from Tl)];rfl:_=.ok (Β ρ) X));have HN5:Hid (CL (fun v:VC=>v.1) Vs p=T++CL (fun v:VC=>v.1) (Vs.drop (j+1)) p):=qh (by rw[hN,if_pos Tl];rfl);clear hN hq Tl;go_upto_region 5 with fail
    have fL:∀w',Kept aO wo.drew w'→w'.cell? ⟨b0,0,ε⟩=ζ (γ (ζ ⟨bb,off,ε⟩) n c):=fun w' h=>h.nil_cell (HX.out.1.dr.cell (i:=0) rfl)
    refine ay (aO) (by kernel_rfl) ?_;refine aa 0 ?_;refine aa 1 ?_;refine aa 2 ?_;refine aa 3 ?_;refine aa 4 ?_;refine cV 5 (hy:=nS (by rfl) 30 (.tmp 22) rfl ⟨bb,off+j*5,ε⟩ rfl [J y.1.1,J y.1.2] _ HPi.out Tryz.underlying30 rfl (by kernel_rfl)) (h:=?_);refine cV 6 (hy:=ib (by rfl) 30 (.tmp 4) rfl b1 rfl 30 [J p.1,J p.2] _ (fun w' h=>h.whole HX.out.2.1.dr (fun h=>h)) Tryz.underlying30 rfl (by kernel_rfl)) (h:=?_);refine cV 7 (hy:=dD (by rfl) (fun w' _=>dU .neq 30 (.tmp 23) (.tmp 24) 30 rfl rfl rfl (by kernel_rfl) (HQ.out w'))) (h:=?_);refine aF (by kernel_rfl) ?_ _;intro w5 hw5;have hx5:σ wo.heap.size wo w5:=(Θ wo.heap.size wo).drew.trans hw5;have BE:=qh (HO.out.up hx5);have oK:=qh (HX.out.up hx5);have H35:=qh (H3.out.bl hx5);clear hw5 hx5 HO HX H3 fL HP HPi c0 HQ;go_wp2;go_roundw
    case rel=>exact⟨j+1,D3,n3,d3,T,by omega,by omega,by go_num,oK,H35,BE,HN5⟩
    case measure=>simp[intOf];omega
   ·have HQ:=qh (fun X=>(hq X).trans (by rw[decide_eq_false (show ¬(y.1.1,y.1.2)=(p.1,p.2) from Tl)];rfl:_=.ok (Β true) X));have HN5:Hid (CL (fun v:VC=>v.1) Vs p=(T++[y])++CL (fun v:VC=>v.1) (Vs.drop (j+1)) p):=qh (by rw[hN,if_neg Tl];simp);clear hN hq Tl;go_upto_region 5 with fail
    have fL:∀w',Kept aO wo.drew w'→w'.cell? ⟨b0,0,ε⟩=ζ (γ (ζ ⟨bb,off,ε⟩) n c):=fun w' h=>h.nil_cell (HX.out.1.dr.cell (i:=0) rfl)
    refine ay (aO) (by kernel_rfl) ?_;refine aa 0 ?_;refine aa 1 ?_;refine aa 2 ?_;refine aa 3 ?_;refine aa 4 ?_;refine cV 5 (hy:=nS (by rfl) 30 (.tmp 22) rfl ⟨bb,off+j*5,ε⟩ rfl [J y.1.1,J y.1.2] _ HPi.out Tryz.underlying30 rfl (by kernel_rfl)) (h:=?_);refine cV 6 (hy:=ib (by rfl) 30 (.tmp 4) rfl b1 rfl 30 [J p.1,J p.2] _ (fun w' h=>h.whole HX.out.2.1.dr (fun h=>h)) Tryz.underlying30 rfl (by kernel_rfl)) (h:=?_);refine cV 7 (hy:=dD (by rfl) (fun w' _=>dU .neq 30 (.tmp 23) (.tmp 24) 30 rfl rfl rfl (by kernel_rfl) (HQ.out w'))) (h:=?_);refine aF (by kernel_rfl) ?_ _;intro w5 hw5;have hx5:σ wo.heap.size wo w5:=(Θ wo.heap.size wo).drew.trans hw5;have BE:=qh (HO.out.up hx5);have oK:=qh (HX.out.up hx5);have H35:=qh (H3.out.bl hx5);clear hw5 hx5 HO HX H3 fL HPi c0 HQ;have HO:=BE;have HX:=oK;have H3:=H35;clear BE oK H35;obtain⟨wo,cS⟩:=aB w5;rw[cS] at HX H3 HO ⊢;clear cS;go_upto_region 6 with fail
    have fL:∀w',Kept (cw lo) wo.drew w'→w'.cell? ⟨b4,0,ε⟩=ζ (γ D3 n3 d3):=fun w' hk=>hk.from_cell L3V.out (H3.out.dr.cell (i:=0) rfl)
    have ld1:∀w',Kept (cw lo) wo.drew w'→w'.cell? ⟨b0,0,ε⟩=ζ (γ (ζ ⟨bb,off,ε⟩) n c):=fun w' hk=>hk.from_cell (HLtV.out _ Jai).1 (HX.out.1.dr.cell (i:=0) rfl)
    have ZP:Hid (∀w',Kept (cw lo) wo.drew w'→∀i u,(vC y)[i]? =ζ u→w'.cell? ((⟨bb,off+j*5,ε⟩:Κ).add i)=ζ u):=qh (fun w' hk i u hu=>hk.from_cell (by rw[en];exact JaK aY LWV.out) ((HO.out.below.cell (by rw[en];exact aY)).trans (HP.out i u hu)));refine cI (cw lo) [10] (by kernel_rfl) ?_;refine aU 0 ?_;refine aU 1 ?_;refine aU 2 ?_;refine aU 3 ?_;refine aU 4 ?_;refine aU 5 ?_;refine S4 6 (hy:=nS (by rfl) 59 (.tmp 31) rfl ⟨bb,off+j*5,ε⟩ rfl (vC y) _ ZP.out Tryz.underlying59 rfl (by kernel_rfl)) (h:=?_);refine lM 7 ?_;intro w' aC
    refine⟨γ (ζ ⟨w'.heap.size,0,ε⟩) 1 1,w'.alloc (δ (vC y).toArray 59),gW 22 59 1 #[(0,.tmp 32)] (by rfl) Tryz.underlying22 _ (by kernel_rfl),Kept.of_below (az _ _),?_⟩
    have HXd:Hid (Ext wo.drew (w'.alloc (δ (vC y).toArray 59))):=qh (Ext.trans aC (az _ _));have Je:Hid (bg (w'.alloc (δ (vC y).toArray 59)) (w'.alloc (δ (vC y).toArray 59)).heap.size 5 (ζ ⟨w'.heap.size,0,ε⟩) 1 1 (vC y)):=qh (bg.of_whole (Whole.new_ _ _ _) rfl);obtain⟨V3,Oi⟩:=aB (w'.alloc (δ (vC y).toArray 59));obtain⟨g3,Sz⟩:=aB w'.heap.size;rw[Oi] at HXd Je ⊢;rw[Sz] at Je ⊢;clear aC Oi Sz;simp only[ξ,aw,ar,aq];refine lM 8 ?_;intro w' aC;have hx:=(Θ wo.heap.size wo).drew.trans (Ext.trans HXd.out aC);obtain⟨v8,bW,bV,ho,D9⟩:=Ow.app (P:=η) 22 22 59 ivV _ 5 64 lo Tryz.underlying22 hiV hz0V hz1V hz2V rfl (by decide) _ _ _ (HO.out.up hx) _ _ 1 1 _ (Je.out.bl aC) (nQ y) (by unfold Jap;omega) (by omega);rw[show ah vC T++vC y=ah vC (T++[y]) by rw[bY];simp[ah]] at ho;obtain⟨A3,c3,rfl,-⟩:=ho.rds
    refine⟨_,bW,dt (by rfl) (by rfl) (by rfl) bV,Kept.of_from D9,?_⟩
    have Ck:=qh ho;have H33:=qh ((H3.out.bl hx).at_ (D9.block _ L3V.out));have cF:=qh (Bx.gr D9 (HX.out.up hx) (fun p hp=>(HLtV.out p hp).1));obtain⟨V4,Te⟩:=aB bW;rw[Te] at Ck H33 cF ⊢;clear aC hx bV ho D9 Te HXd Je;simp only[ξ,aw,ar,aq];refine aU 9 ?_;refine qu 10 ?_;intro w' aC;have DO:=(H33.out.bl aC).cell (i:=0) rfl;have oH:=(H33.out.bl aC).free 0
    refine⟨w'.setCell ⟨b4,0,ε⟩ (γ A3 (n3+1) c3),?_,?_⟩
    ·go_simp;first|done|exact rfl
    have KQ:=qh ((Ck.out.up aC).set_far ((Ck.out.up aC).low_ne L3V.out) TL.out (γ A3 (n3+1) c3) (i:=0));have H34:=qh ((H33.out.bl aC).set_ 0 (γ A3 (n3+1) c3));have eY:=qh (Bx.st (γ A3 (n3+1) c3) (i:=0) (cF.out.up aC) (fun p hp=>(HLtV.out p hp).2));obtain⟨V5,gV5⟩:=aB (w'.setCell ⟨b4,0,ε⟩ (γ A3 (n3+1) c3));rw[gV5] at KQ H34 eY ⊢;clear aC DO oH gV5 Ck H33 cF;(try simp only[ξ,aw,ar,aq]);refine gG (by kernel_rfl) ?_ _;intro w8 cg;have XW:=qh (KQ.out.up cg);have ue:=qh (eY.out.up cg);have H38:=qh (H34.out.bl cg);clear cg HO HX H3 KQ eY H34 fL ld1 ZP;go_wp2;go_roundw
    case rel=>exact⟨j+1,A3,n3+1,c3,T++[y],by omega,by omega,by go_num,ue,H38,XW,HN5⟩
    case measure=>simp[intOf];omega
  ·obtain rfl:n=j:=by omega
   have HT:Hid (CL (fun v:VC=>v.1) Vs p=T):=qh (by rw[HN.out,Jak (by have:=HLV.out;omega)];simp[CL]);clear HN;go_upto_region 8 with fail
   clear c0;obtain⟨A2,n2,c2,TV_,wq,gA,gn,gc,gT,gw⟩:∃A2 n2 c2 TV_ wq,D3=A2∧n3=n2∧d3=c2∧T=TV_∧wo=wq:=⟨_,_,_,_,_,rfl,rfl,rfl,rfl,rfl⟩
   rw[gA,gn,gc] at H3 HO;rw[gT] at HO HT;rw[gw] at HX H3 HO ⊢;clear gA gn gc gT gw;have HVn:Hid (∀a,A2=ζ a→0<n2→a.block≠b4):=qh (fun a ha _=>by have:=AM HO.out.own ha;have:=L3V.out;omega);have HVn3:Hid (∀a,A2=ζ a→0<n2→a.block≠b3):=qh (fun a ha _=>by have:=AM HO.out.own ha;have:=(HLtV.out (b3,25,[γ ε 0 0,γ ε 0 0]) (by simp)).1;omega);have HVr:Hid (bg wq wq.heap.size 5 A2 n2 c2 (ah vC TV_)):=qh (aK HO.out.own);have HVc:Hid (c2≤Jap):=qh (nB HO.out.own);have fw:=HO.out.hi;have xO:Hid (Ow W wq.heap.size 67 4 (γ ε 0 0) 0 (ah eC []) wq):=qh ⟨World.ownsRow_nil _ _ _ _,HO.out.below,HO.out.below.size,Nat.le_refl _⟩;have HLtE:Hid (∀p_∈([(b0,25,[γ A n c,γ B m k]),(b1,30,[J p.1,J p.2]),(b2,30,[J q.1,J q.2]),(b3,25,[γ ε 0 0,γ ε 0 0])]:List (Nat × TypeId × List Value)),p_.1<wq.heap.size∧p_.1≠b4):=qh (fun p_ hp=>⟨JaK (HLtV.out p_ hp).1 fw,(HLtV.out p_ hp).2⟩);have LWE:Hid (W.heap.size≤wq.heap.size):=qh HO.out.below.size;have L3E:Hid (b4<wq.heap.size):=qh (JaK L3V.out fw);have HTV:=HT;clear HO HT fw HV;have HV:=HVr;have HO:=xO;clear HVr xO;obtain⟨lo2,Su⟩:=aB wq.heap.size;rw[Su] at HV HO HLtE LWE L3E;clear Su;go_loopw [9] (fun vi wr=>∃(j:Nat) (D3:Option Κ) (n3 d3:Nat) (T:List EC),j≤m∧n3≤j∧vi=J (j:Int)∧Hid (Bx wr [(b0,25,[γ A n c,γ B m k]),(b1,30,[J p.1,J p.2]),(b2,30,[J q.1,J q.2]),(b3,25,[γ ε 0 0,γ ε 0 0])])∧Hid (Whole wr b4 25 [γ A2 n2 c2,γ D3 n3 d3])∧Hid (Ow W lo2 67 4 (γ D3 n3 d3) n3 (ah eC T) wr)∧Hid (CL (fun v:EC=>v.1) Es q=T++CL (fun v:EC=>v.1) (Es.drop j) q)∧Hid (bg wr lo2 5 A2 n2 c2 (ah vC TV_))) (fun vi _=>m - (intOf vi).toNat)
   case atStart=>exact⟨0,ε,0,0,[],Jas _,Jas _,rfl,HX,H3,HO,qh rfl,HV⟩
   case round=>
    clear HX H3 HO HV;obtain⟨j,D3,n3,d3,T,hj,hn3,rfl,HX,H3,HO,HN,HV⟩:=hrel;obtain⟨wo,cS⟩:=aB wr;rw[cS] at HX H3 HO HV ⊢;clear cS;have c0:=HX.out.1.cell (i:=1) rfl
    by_cases nT:j<m
    ·have ya:(j:Int)<(m:Int):=by omega
     obtain⟨y,hy⟩:∃y,Es[j]? =ζ y:=⟨_,θ (by have:=VE.out;omega)⟩
     have hN:=HN.out;rw[Χ (ν.1 hy).1,(ν.1 hy).2,cutK_cons] at hN;obtain⟨bb,off,rfl,aY,a8⟩:=HE.out.place bM (by decide) (by omega);have HP:=qh (a8 j _ hy)
     have HPi:Hid (∀w',Kept aO wo.drew w'→∀i u,[J y.1.1,J y.1.2][i]? =ζ u→w'.cell? ((⟨bb,off+j*4,ε⟩:Κ).add i)=ζ u):=qh (fun w' h i u hu=>h.nil_cell ((HO.out.below.cell (by rw[en];exact aY)).trans (a8 j _ hy i u (by
      rcases i with _|_|i
      ·exact hu
      ·exact hu
      ·simp at hu))))
     clear hy a8 HN;have hq:=neqI_run y.1.1 y.1.2 q.1 q.2
     by_cases Tl:y.1=q
     ·have HQ:=qh (fun X=>(hq X).trans (by rw[decide_eq_true (show(y.1.1,y.1.2)=(q.1,q.2) from Tl)];rfl:_=.ok (Β ρ) X));have HN5:Hid (CL (fun v:EC=>v.1) Es q=T++CL (fun v:EC=>v.1) (Es.drop (j+1)) q):=qh (by rw[hN,if_pos Tl];rfl);clear hN hq Tl;go_upto_region 10 with fail
      have fL:∀w',Kept aO wo.drew w'→w'.cell? ⟨b0,1,ε⟩=ζ (γ (ζ ⟨bb,off,ε⟩) m k):=fun w' h=>h.nil_cell (HX.out.1.dr.cell (i:=1) rfl)
      refine ay (aO) (by kernel_rfl) ?_;refine aa 0 ?_;refine aa 1 ?_;refine aa 2 ?_;refine aa 3 ?_;refine aa 4 ?_;refine cV 5 (hy:=nS (by rfl) 30 (.tmp 47) rfl ⟨bb,off+j*4,ε⟩ rfl [J y.1.1,J y.1.2] _ HPi.out Tryz.underlying30 rfl (by kernel_rfl)) (h:=?_);refine cV 6 (hy:=ib (by rfl) 30 (.tmp 5) rfl b2 rfl 30 [J q.1,J q.2] _ (fun w' h=>h.whole HX.out.2.2.1.dr (fun h=>h)) Tryz.underlying30 rfl (by kernel_rfl)) (h:=?_);refine cV 7 (hy:=dD (by rfl) (fun w' _=>dU .neq 30 (.tmp 48) (.tmp 49) 30 rfl rfl rfl (by kernel_rfl) (HQ.out w'))) (h:=?_);refine aF (by kernel_rfl) ?_ _;intro w5 hw5;have hx5:σ wo.heap.size wo w5:=(Θ wo.heap.size wo).drew.trans hw5;have BE:=qh (HO.out.up hx5);have oK:=qh (HX.out.up hx5);have H35:=qh (H3.out.bl hx5);have Sn:=qh (HV.out.below (hx5.mono HO.out.hi));clear hw5 hx5 HO HX H3 HV fL HP HPi c0 HQ;go_wp2;go_roundw
      case rel=>exact⟨j+1,D3,n3,d3,T,by omega,by omega,by go_num,oK,H35,BE,HN5,Sn⟩
      case measure=>simp[intOf];omega
     ·have HQ:=qh (fun X=>(hq X).trans (by rw[decide_eq_false (show ¬(y.1.1,y.1.2)=(q.1,q.2) from Tl)];rfl:_=.ok (Β true) X));have HN5:Hid (CL (fun v:EC=>v.1) Es q=(T++[y])++CL (fun v:EC=>v.1) (Es.drop (j+1)) q):=qh (by rw[hN,if_neg Tl];simp);clear hN hq Tl;go_upto_region 10 with fail
      have fL:∀w',Kept aO wo.drew w'→w'.cell? ⟨b0,1,ε⟩=ζ (γ (ζ ⟨bb,off,ε⟩) m k):=fun w' h=>h.nil_cell (HX.out.1.dr.cell (i:=1) rfl)
      refine ay (aO) (by kernel_rfl) ?_;refine aa 0 ?_;refine aa 1 ?_;refine aa 2 ?_;refine aa 3 ?_;refine aa 4 ?_;refine cV 5 (hy:=nS (by rfl) 30 (.tmp 47) rfl ⟨bb,off+j*4,ε⟩ rfl [J y.1.1,J y.1.2] _ HPi.out Tryz.underlying30 rfl (by kernel_rfl)) (h:=?_);refine cV 6 (hy:=ib (by rfl) 30 (.tmp 5) rfl b2 rfl 30 [J q.1,J q.2] _ (fun w' h=>h.whole HX.out.2.2.1.dr (fun h=>h)) Tryz.underlying30 rfl (by kernel_rfl)) (h:=?_);refine cV 7 (hy:=dD (by rfl) (fun w' _=>dU .neq 30 (.tmp 48) (.tmp 49) 30 rfl rfl rfl (by kernel_rfl) (HQ.out w'))) (h:=?_);refine aF (by kernel_rfl) ?_ _;intro w5 hw5;have hx5:σ wo.heap.size wo w5:=(Θ wo.heap.size wo).drew.trans hw5;have BE:=qh (HO.out.up hx5);have oK:=qh (HX.out.up hx5);have H35:=qh (H3.out.bl hx5);have Sn:=qh (HV.out.below (hx5.mono HO.out.hi));clear hw5 hx5 HO HX H3 HV fL HPi c0 HQ;have HO:=BE;have HX:=oK;have H3:=H35;have HV:=Sn;clear BE oK H35 Sn;obtain⟨wo,cS⟩:=aB w5;rw[cS] at HX H3 HO HV ⊢;clear cS;go_upto_region 11 with fail
      have fL:∀w',Kept (cw lo2) wo.drew w'→w'.cell? ⟨b4,1,ε⟩=ζ (γ D3 n3 d3):=fun w' hk=>hk.from_cell L3E.out (H3.out.dr.cell (i:=1) rfl)
      have ld1:∀w',Kept (cw lo2) wo.drew w'→w'.cell? ⟨b0,1,ε⟩=ζ (γ (ζ ⟨bb,off,ε⟩) m k):=fun w' hk=>hk.from_cell (HLtE.out _ Jai).1 (HX.out.1.dr.cell (i:=1) rfl)
      have ZP:Hid (∀w',Kept (cw lo2) wo.drew w'→∀i u,(eC y)[i]? =ζ u→w'.cell? ((⟨bb,off+j*4,ε⟩:Κ).add i)=ζ u):=qh (fun w' hk i u hu=>hk.from_cell (by rw[en];exact JaK aY LWE.out) ((HO.out.below.cell (by rw[en];exact aY)).trans (HP.out i u hu)));refine cI (cw lo2) [10] (by kernel_rfl) ?_;refine aU 0 ?_;refine aU 1 ?_;refine aU 2 ?_;refine aU 3 ?_;refine aU 4 ?_;refine aU 5 ?_;refine S4 6 (hy:=nS (by rfl) 67 (.tmp 56) rfl ⟨bb,off+j*4,ε⟩ rfl (eC y) _ ZP.out Tryz.underlying67 rfl (by kernel_rfl)) (h:=?_);refine lM 7 ?_;intro w' aC
      refine⟨γ (ζ ⟨w'.heap.size,0,ε⟩) 1 1,w'.alloc (δ (eC y).toArray 67),gW 23 67 1 #[(0,.tmp 57)] (by rfl) Tryz.underlying23 _ (by kernel_rfl),Kept.of_below (az _ _),?_⟩
      have HXd:Hid (Ext wo.drew (w'.alloc (δ (eC y).toArray 67))):=qh (Ext.trans aC (az _ _));have Je:Hid (bg (w'.alloc (δ (eC y).toArray 67)) (w'.alloc (δ (eC y).toArray 67)).heap.size 4 (ζ ⟨w'.heap.size,0,ε⟩) 1 1 (eC y)):=qh (bg.of_whole (Whole.new_ _ _ _) rfl);obtain⟨V3,Oi⟩:=aB (w'.alloc (δ (eC y).toArray 67));obtain⟨g3,Sz⟩:=aB w'.heap.size;rw[Oi] at HXd Je ⊢;rw[Sz] at Je ⊢;clear aC Oi Sz;simp only[ξ,aw,ar,aq];refine lM 8 ?_;intro w' aC;have hx:=(Θ wo.heap.size wo).drew.trans (Ext.trans HXd.out aC);obtain⟨v8,bW,bV,ho,D9⟩:=Ow.app (P:=η) 23 23 67 ivE _ 4 40 lo2 Tryz.underlying23 hiE hz0E hz1E hz2E rfl (by decide) _ _ _ (HO.out.up hx) _ _ 1 1 _ (Je.out.bl aC) (nr y) (by unfold Jap;omega) (by omega);rw[show ah eC T++eC y=ah eC (T++[y]) by rw[bY];simp[ah]] at ho;obtain⟨A3,c3,rfl,-⟩:=ho.rds
      refine⟨_,bW,dt (by rfl) (by rfl) (by rfl) bV,Kept.of_from D9,?_⟩
      have Ck:=qh ho;have H33:=qh ((H3.out.bl hx).at_ (D9.block _ L3E.out));have cF:=qh (Bx.gr D9 (HX.out.up hx) (fun p hp=>(HLtE.out p hp).1));have HV3:=qh ((HV.out.below (hx.mono HO.out.hi)).below D9);obtain⟨V4,Te⟩:=aB bW;rw[Te] at Ck H33 cF HV3 ⊢;clear aC hx bV ho D9 Te HXd Je;simp only[ξ,aw,ar,aq];refine aU 9 ?_;refine qu 10 ?_;intro w' aC;have DO:=(H33.out.bl aC).cell (i:=1) rfl;have oH:=(H33.out.bl aC).free 1
      refine⟨w'.setCell ⟨b4,1,ε⟩ (γ A3 (n3+1) c3),?_,?_⟩
      ·go_simp;first|done|exact rfl
      have KQ:=qh ((Ck.out.up aC).set_far ((Ck.out.up aC).low_ne L3E.out) TL.out (γ A3 (n3+1) c3) (i:=1));have H34:=qh ((H33.out.bl aC).set_ 1 (γ A3 (n3+1) c3));have eY:=qh (Bx.st (γ A3 (n3+1) c3) (i:=1) (cF.out.up aC) (fun p hp=>(HLtE.out p hp).2));have Qi:=qh ((HV3.out.below (aC.mono Ck.out.hi)).far_ HVn.out (γ A3 (n3+1) c3) (i:=1));obtain⟨V5,gV5⟩:=aB (w'.setCell ⟨b4,1,ε⟩ (γ A3 (n3+1) c3));rw[gV5] at KQ H34 eY Qi ⊢;clear aC DO oH gV5 Ck H33 cF HV3;(try simp only[ξ,aw,ar,aq]);refine gG (by kernel_rfl) ?_ _;intro w8 cg;have XW:=qh (KQ.out.up cg);have ue:=qh (eY.out.up cg);have H38:=qh (H34.out.bl cg);have KA:=qh (Qi.out.below (cg.mono KQ.out.hi));clear cg HO HX H3 HV KQ eY H34 Qi fL ld1 ZP;go_wp2;go_roundw
      case rel=>exact⟨j+1,A3,n3+1,c3,T++[y],by omega,by omega,by go_num,ue,H38,XW,HN5,KA⟩
      case measure=>simp[intOf];omega
    ·obtain rfl:m=j:=by omega
     have HT:Hid (CL (fun v:EC=>v.1) Es q=T):=qh (by rw[HN.out,Jak (by have:=VE.out;omega)];simp[CL]);clear HN;have L2:Hid (b3<lo2):=qh (HLtE.out (b3,25,[γ ε 0 0,γ ε 0 0]) (by simp)).1;have z0:=HX.out.2.2.2.1.cell (i:=0) rfl;have z1:=HX.out.2.2.2.1.cell (i:=1) rfl;have y0:=HX.out.2.2.2.1.free 0;have y1:=HX.out.2.2.2.1.free 1;have k0:=H3.out.cell (i:=0) rfl;have k1:=H3.out.cell (i:=1) rfl;have bj:=HO.out.low_ne L2.out;go_wp2;have VI:∀a,A2=ζ a→0<n2→a.block≠b3:=HVn3.out
     have hbf:=(HO.out.below.setCell (p:=⟨b3,0,ε⟩) Lb3.out (γ A2 n2 c2)).setCell (p:=⟨b3,1,ε⟩) Lb3.out (γ D3 n3 d3)
     exact dO rfl b3 rfl ((HX.out.2.2.2.1.set_ 0 _).set_ 1 _) Tryz.underlying25 rfl (by kernel_rfl) rfl ⟨A2,n2,c2,D3,n3,d3,rfl,⟨by
      rw[HTV.out];exact((HV.out.far_ VI _ (i:=0)).far_ VI _ (i:=1)).up (Θ _ _) (by simp only[World.size_setCell];exact HO.out.hi),by
      rw[HT.out];exact aK ((HO.out.set_far bj Lb3.out _ (i:=0)).set_far bj Lb3.out _ (i:=1)).own,fun x hx=>(HR.out x (List.mem_filter.1 hx).1).bl hbf⟩,HVc.out,nB HO.out.own,hbf⟩
theorem eqlI_run (a b x y:Int) (X:ο):(binOp .eql 30 (φ #[J a,J b]) (φ #[J x,J y])).run η X=.ok (Β (decide ((a,b)=(x,y)))) X:=by
 by_cases h1:a=x
 ·by_cases h2:b=y
  ·simp[go_sem,h1,h2]
  ·simp[go_sem,h1,h2]
 ·simp[go_sem,h1]
theorem ringAt_next {V:List VS} {j:Nat} {v:VS} {x:Nm} {l:List D} (h:V[j]? =ζ v):dS (V.take (j+1)) x l++V.drop (j+1)=(dS (V.take j) x l++V.drop j).set j (if v.1=x then tN v l else v):=by
 obtain⟨hj,e⟩:=ν.1 h;have hl:(dS (V.take j) x l).length=j:=by rw[fE,JaA];omega
 rw[List.set_append,if_neg (by omega),hl,JaP,Χ hj,List.set_cons_zero,List.take_succ_eq_append_getElem hj,e];unfold dS;rw[List.map_append,List.append_assoc];rfl
theorem set_same_ {α:Type} {l:List α} {i:Nat} {x:α} (h:l[i]? =ζ x):l.set i x=l:=by
 obtain⟨h1,h2⟩:=ν.1 h;rw[←h2];exact List.set_getElem_self h1
theorem ringAt_at {V:List VS} {j:Nat} {v:VS} {x:Nm} {l:List D} (h:V[j]? =ζ v):(dS (V.take j) x l++V.drop j)[j]? =ζ v:=by
 obtain⟨hj,e⟩:=ν.1 h;have hl:(dS (V.take j) x l).length=j:=by rw[fE,JaA];omega
 rw[List.getElem?_append_right (by omega),hl,JaP,List.getElem?_drop,Nat.add_zero,h]
def GivesDg (W:ο) (n m:Nat) (V:List VS) (E:List EC) (e:Ending) (w':ο):Prop:=
 ∃A' c' B' k' Ws,e=.returned (φ #[γ A' n c',γ B' m k'])∧bz w' A' n c' Ws B' m k' E∧Ws.map vS=V∧(∀a,A'=ζ a→W.heap.size≤a.block)∧c'≤Jap∧k'≤Jap∧σ W.heap.size W w'
theorem dg_poke {W:ο} {A:Option Κ} {n c:Nat} {Vs:List VC} {B:Option Κ} {m k:Nat} {Es:List EC} (h:bz W A n c Vs B m k Es) {g i:Nat} {A1:Option Κ} {n1 c1:Nat} (hp:W.cell? ⟨g,i,ε⟩=ζ (γ A1 n1 c1)) (hv:∀a,A=ζ a→0<n→a.block≠g) (u:Value):bz (W.setCell ⟨g,i,ε⟩ u) A n c Vs B m k Es:=
 ⟨by rw[size_setCell];exact h.v.far_ hv u,by rw[size_setCell];exact vQ h.e hp xo u,fun x hx=>IN (h.r x hx) hp u⟩
theorem rringed_any {W:ο} {A:Option Κ} {n c:Nat} {Vs:List VC} {B:Option Κ} {m k:Nat} {Es:List EC} (h:bz W A n c Vs B m k Es) (hn:n≤1000) (hm:m≤1000) (hr:∀x∈Vs,x.2.1.2.1≤1000000) (p:Nm) (R:Rg) (hR:RgOk W R):
 Calls η 99 #[φ #[γ A n c,γ B m k],φ #[J p.1,J p.2],γ R.1 R.2.1 R.2.2.1] W (GivesDg W n m (dS (Vs.map vS) p R.2.2.2) Es):=by
 show Calls _ _ _ _ fun e w'=>∃A' c' B' k' Ws,e=.returned (φ #[γ A' n c',γ B' m k'])∧bz w' A' n c' Ws B' m k' Es∧Ws.map vS=dS (Vs.map vS) p R.2.2.2∧(∀a,A'=ζ a→W.heap.size≤a.block)∧c'≤Jap∧k'≤Jap∧σ W.heap.size W w'
 have HCl:=qh (fun X (hX:σ W.heap.size W X)=>Gd A n c Vs B m k Es X (h.below hX) (by omega) (by omega) hr);have HLV:Hid ((Vs.map vS).length=n):=qh (by rw[List.length_map];exact h.v.rlen aS (by decide));have HR:=qh hR;clear h hr hR;obtain⟨V,gV⟩:=aB (Vs.map vS);rw[gV] at HCl HLV ⊢;clear gV;go_enter Tryz.func99,Tryz.ntmps99;go_upto_region 1 with fail
 obtain⟨W0,b0,b1,b2,bO,bp,dE,jc,aQ,aL,aZ,bw,-,-,oa,-,iP,-,eI,uW,RA,tU⟩:=Bs W 25 [γ A n c,γ B m k] 30 [J p.1,J p.2] 25 [γ ε 0 0,γ ε 0 0];rw[bO,jc,dE,bp];clear bO bp dE jc;have x0:=aQ.out.cell (i:=0) rfl;have x1:=aQ.out.cell (i:=1) rfl
 go_upto_region 3 with (first
  |(go_at_call 23
    refine(HCl.out _ bw.out).mono ?_
    rintro e w2 ⟨A5,c5,B5,k5,Ws,rfl,Ph,S1,fP⟩;have XU:=qh Ph;have Sn:=qh S1;have kF:=qh fP;clear Ph S1 fP x0 x1))
 have Ph:=XU.out;have fP:=kF.out;have HC:=qh (Ph.al (δ #[γ A5 n c5,γ B5 m k5] 25)).wr;have HCe:=qh (nB Ph.e);have HCv:=qh (nB Ph.v);have HWs:=Sn;have bG:=qh (aI (ag bw.out fP) (δ #[γ A5 n c5,γ B5 m k5] 25));have HX:Hid (Bx (w2.alloc (δ #[γ A5 n c5,γ B5 m k5] 25)) [(b0,25,[γ A n c,γ B m k]),(b1,30,[J p.1,J p.2]),(b2,25,[γ ε 0 0,γ ε 0 0]),(w2.heap.size,25,[γ A5 n c5,γ B5 m k5])]):=qh ⟨(aQ.out.bl fP).al _,(aL.out.bl fP).al _,(aZ.out.bl fP).al _,Whole.new_ w2 25 [γ A5 n c5,γ B5 m k5],trivial⟩;have HRr:=qh (HR.out.bl bG.out);have HL0:Hid (W.heap.size≤W0.heap.size):=qh bw.out.size;have L2o:Hid (b2<W0.heap.size):=qh aZ.out.lt;clear Ph fP XU kF Sn aQ aL aZ bw HCl HR;obtain⟨w3,gw3⟩:=aB (w2.alloc (δ #[γ A5 n c5,γ B5 m k5] 25));obtain⟨b3,Z6⟩:=aB w2.heap.size;rw[gw3] at HC bG HX HRr ⊢;rw[Z6] at HX ⊢;clear gw3 Z6;have HU0:Hid (Ws.map vS=dS (V.take 0) p R.2.2.2++V.drop 0):=qh (by rw[HWs.out];rfl);clear HWs;obtain⟨lo,Su⟩:=aB W0.heap.size;rw[Su] at HC HL0 L2o;clear Su;go_loopw [8] (fun vi wr=>∃(j:Nat) (Us:List VC),j≤n∧vi=J (j:Int)∧Hid (Bx wr [(b0,25,[γ A n c,γ B m k]),(b1,30,[J p.1,J p.2]),(b2,25,[γ ε 0 0,γ ε 0 0]),(b3,25,[γ A5 n c5,γ B5 m k5])])∧Hid (Wr wr lo A5 n c5 Us B5 m k5 Es)∧Hid (σ W.heap.size W wr)∧Hid (RgOk wr R)∧Hid (Us.map vS=dS (V.take j) p R.2.2.2++V.drop j)) (fun vi _=>n - (intOf vi).toNat)
 case atStart=>exact⟨0,Ws,Jas _,rfl,HX,HC,bG,HRr,HU0⟩
 case round=>
  clear HX HC bG HRr HU0;obtain⟨j,Us,hj,rfl,HX,HC,HB,HRr,HU⟩:=hrel;obtain⟨wo,cS⟩:=aB wr;rw[cS] at HX HC HB HRr ⊢;clear cS;have c0:=HX.out.2.2.2.1.cell (i:=0) rfl
  by_cases nT:j<n
  ·have ya:(j:Int)<(n:Int):=by omega
   obtain⟨v,hv⟩:∃v,V[j]? =ζ v:=⟨_,θ (by have:=HLV.out;omega)⟩
   have hUj:=ringAt_at (x:=p) (l:=R.2.2.2) hv;have hUn:=ringAt_next (x:=p) (l:=R.2.2.2) hv;rw[←HU.out,Ψ] at hUj;rw[←HU.out] at hUn;obtain⟨y,hy,Xj⟩:=Option.map_eq_some_iff.1 hUj;have hk:v.1=y.1:=congrArg (·.1) Xj.symm;have HY:=qh hy;have HUn:=qh hUn;have HYv:=qh Xj;obtain⟨bb,off,e5,aY,a8⟩:=(aK HC.out.v).place aS (by decide) (by omega)
   have HPi:Hid (∀w',Kept aO wo.drew w'→∀i u,[J y.1.1,J y.1.2][i]? =ζ u→w'.cell? ((⟨bb,off+j*5,ε⟩:Κ).add i)=ζ u):=qh (fun w' h i u hu=>h.nil_cell (a8 j _ hy i u (by
    rcases i with _|_|i
    ·exact hu
    ·exact hu
    ·simp at hu)))
   have hA5:A5=ζ ⟨bb,off,ε⟩:=e5;have hq:=eqlI_run y.1.1 y.1.2 p.1 p.2;clear hv hUj hUn hy Xj a8 aY e5
   by_cases Tl:y.1=p
   ·have HQ:=qh (fun X=>(hq X).trans (by rw[decide_eq_true (show(y.1.1,y.1.2)=(p.1,p.2) from Tl)]:_=.ok (Β true) X));have HYp:=qh (hk.trans Tl);clear hq Tl hk;have XA:=qh hA5;clear hA5;obtain⟨g,eg,fw,hwg,-,-,-⟩:=HC.out.put HY.out nT R HRr.out
    have hgo:bb=g∧off=0:=by
     have:=XA.out.symm.trans eg
     injection this with e1
     injection e1 with e2 e3
     exact⟨e2,e3⟩
    obtain⟨rfl,rfl⟩:=hgo;subst eg;clear fw hwg XA;go_upto_region 5 with fail
    simp only[Nat.zero_add] at HPi;have fL:∀w',Kept aO wo.drew w'→w'.cell? ⟨b3,0,ε⟩=ζ (γ (ζ ⟨bb,0,ε⟩) n c5):=fun w' h=>h.nil_cell (HX.out.2.2.2.1.dr.cell (i:=0) rfl)
    refine ay (aO) (by kernel_rfl) ?_;refine aa 0 ?_;refine aa 1 ?_;refine aa 2 ?_;refine aa 3 ?_;refine aa 4 ?_;refine cV 5 (hy:=nS (by rfl) 30 (.tmp 22) rfl ⟨bb,j*5,ε⟩ rfl [J y.1.1,J y.1.2] _ HPi.out Tryz.underlying30 rfl (by kernel_rfl)) (h:=?_);refine cV 6 (hy:=ib (by rfl) 30 (.tmp 4) rfl b1 rfl 30 [J p.1,J p.2] _ (fun w' h=>h.whole HX.out.2.1.dr (fun h=>h)) Tryz.underlying30 rfl (by kernel_rfl)) (h:=?_);refine cV 7 (hy:=dD (by rfl) (fun w' _=>dU .eql 30 (.tmp 23) (.tmp 24) 30 rfl rfl rfl (by kernel_rfl) (HQ.out w'))) (h:=?_);refine aF (by kernel_rfl) ?_ _;intro w5 hw5;have hx5:σ wo.heap.size wo w5:=(Θ wo.heap.size wo).drew.trans hw5;have oK:=qh (HX.out.up hx5);have XU:=qh (HC.out.bl hx5);have kF:=qh (ag HB.out hx5);have HR5:=qh (HRr.out.bl hx5);clear hw5 hx5 HX HC HB HRr fL HPi c0 HQ;obtain⟨g,eg,fw,⟨cs,hwg⟩,qB,Fy,fT⟩:=XU.out.put HY.out nT R HR5.out
    obtain rfl:bb=g:=by
     injection eg with e1
     injection e1
    have ZN:=qh fT
    have bj:∀q∈([(b0,25,[γ A n c,γ B m k]),(b1,30,[J p.1,J p.2]),(b2,25,[γ ε 0 0,γ ε 0 0]),(b3,25,[γ (ζ ⟨bb,0,ε⟩) n c5,γ B5 m k5])]:List (Nat × TypeId × List Value)),q.1≠bb:=fun q hq=>by
     simp only[Η,Jbh,or_false] at hq;rcases hq with rfl|rfl|rfl|rfl
     ·exact oK.out.1.ne_ hwg (show 25≠59 by decide)
     ·exact oK.out.2.1.ne_ hwg (show 30≠59 by decide)
     ·exact oK.out.2.2.1.ne_ hwg (show 25≠59 by decide)
     ·exact oK.out.2.2.2.1.ne_ hwg (show 25≠59 by decide)
    have p9:=qh (Bx.st (g:=bb) (i:=j*5+2) (γ R.1 R.2.1 R.2.2.1) oK.out bj);have s7:=qh (kF.out.setCell (p:=⟨bb,j*5+2,ε⟩) (Λ HL0.out fw) (γ R.1 R.2.1 R.2.2.1));have HR6:=qh (IN HR5.out qB (γ R.1 R.2.1 R.2.2.1));have k0:=oK.out.2.2.2.1.cell (i:=0) rfl;clear eg fw hwg fT bj oK XU kF HR5;go_upto_region 6 with fail
    go_wp2
    have HU6:Hid ((Us.set j (y.1,R,y.2.2)).map vS=dS (V.take (j+1)) p R.2.2.2++V.drop (j+1)):=qh (by
     rw[HUn.out,List.map_set,if_pos HYp.out,←HYv.out];rfl)
    go_roundw
    case rel=>exact⟨j+1,_,by omega,by go_num,p9,ZN,s7,HR6,HU6⟩
    case measure=>simp[intOf];omega
   ·have HQ:=qh (fun X=>(hq X).trans (by rw[decide_eq_false (show ¬(y.1.1,y.1.2)=(p.1,p.2) from Tl)]:_=.ok (Β ρ) X))
    have HU6:Hid (Us.map vS=dS (V.take (j+1)) p R.2.2.2++V.drop (j+1)):=qh (by
     rw[HUn.out,if_neg (fun q=>Tl (hk.symm.trans q))];exact(set_same_ (by rw[Ψ,HY.out,Option.map_some,HYv.out])).symm)
    clear hq Tl hk;subst hA5;go_upto_region 5 with fail
    have fL:∀w',Kept aO wo.drew w'→w'.cell? ⟨b3,0,ε⟩=ζ (γ (ζ ⟨bb,off,ε⟩) n c5):=fun w' h=>h.nil_cell (HX.out.2.2.2.1.dr.cell (i:=0) rfl)
    refine ay (aO) (by kernel_rfl) ?_;refine aa 0 ?_;refine aa 1 ?_;refine aa 2 ?_;refine aa 3 ?_;refine aa 4 ?_;refine cV 5 (hy:=nS (by rfl) 30 (.tmp 22) rfl ⟨bb,off+j*5,ε⟩ rfl [J y.1.1,J y.1.2] _ HPi.out Tryz.underlying30 rfl (by kernel_rfl)) (h:=?_);refine cV 6 (hy:=ib (by rfl) 30 (.tmp 4) rfl b1 rfl 30 [J p.1,J p.2] _ (fun w' h=>h.whole HX.out.2.1.dr (fun h=>h)) Tryz.underlying30 rfl (by kernel_rfl)) (h:=?_);refine cV 7 (hy:=dD (by rfl) (fun w' _=>dU .eql 30 (.tmp 23) (.tmp 24) 30 rfl rfl rfl (by kernel_rfl) (HQ.out w'))) (h:=?_);refine aF (by kernel_rfl) ?_ _;intro w5 hw5;have hx5:σ wo.heap.size wo w5:=(Θ wo.heap.size wo).drew.trans hw5;have oK:=qh (HX.out.up hx5);have XU:=qh (HC.out.bl hx5);have kF:=qh (ag HB.out hx5);have HR5:=qh (HRr.out.bl hx5);clear hw5 hx5 HX HC HB HRr fL HPi c0 HQ;go_wp2;go_roundw
    case rel=>exact⟨j+1,Us,by omega,by go_num,oK,XU,kF,HR5,HU6⟩
    case measure=>simp[intOf];omega
  ·obtain rfl:n=j:=by omega
   have HUe:Hid (Us.map vS=dS V p R.2.2.2):=qh (by
    have:=HU.out
    rwa [List.take_of_length_le (by have:=HLV.out;omega),Jak (by have:=HLV.out;omega),List.append_nil] at this)
   have z0:=HX.out.2.2.1.cell (i:=0) rfl;have z1:=HX.out.2.2.1.cell (i:=1) rfl;have y0:=HX.out.2.2.1.free 0;have y1:=HX.out.2.2.1.free 1;have k1:=HX.out.2.2.2.1.cell (i:=1) rfl;have OZ:=HC.out.dg
   have Bq:∀a,A5=ζ a→0<n→a.block≠b2:=fun a ha _=>by
    have h1:=AM HC.out.v ha;have h2:=L2o.out;omega
   go_wp2;have hbf:=(HB.out.setCell (p:=⟨b2,0,ε⟩) eI.out (γ A5 n c5)).setCell (p:=⟨b2,1,ε⟩) eI.out (γ B5 m k5);have DO:=(HX.out.2.2.1.set_ 0 (γ A5 n c5)).cell (i:=1) rfl;exact dO rfl b2 rfl ((HX.out.2.2.1.set_ 0 _).set_ 1 _) Tryz.underlying25 rfl (by kernel_rfl) rfl ⟨A5,c5,B5,k5,rfl,Us,dg_poke (dg_poke OZ z0 Bq _) DO Bq _,HUe.out,(fun a ha=>Λ HL0.out (AM HC.out.v ha).1),HCv.out,HCe.out,hbf⟩
end Go.Proofs.YtpdpbfmiahjiiaaGreat
