/- Several texts in one. -/
import Derived.Test.YtpdpbfmiahjiiaaGreatPsAB
import Derived.Test.YtpdpbfmiahjiiaaGreatPsAC
import Derived.Test.YtpdpbfmiahjiiaaGreatPsAP
import Derived.Test.YtpdpbfmiahjiiaaGreatPsAQ
set_option linter.unusedSectionVars false
set_option linter.unusedSimpArgs false
set_option linter.unusedVariables false
set_option maxRecDepth 100000
set_option maxHeartbeats 16000000
namespace Go.Proofs.YtpdpbfmiahjiiaaGreat
open Go.RowKit
open _root_.Go.Value renaming slice→γ,pointer→υ,agg→φ,bool→Β,tuple→Ξ
open _root_.Go.Obj renaming cells→δ
open _root_.Option renaming none→ε,some→ζ
open _root_.Go.Proofs.Tryz renaming prog→η
open _root_.List renaming getElem?_eq_getElem→θ,getElem?_eq_some_iff→ν,mem_of_getElem?→ω,drop_eq_getElem_cons→Χ,drop_of_length_le→Jak,mem_singleton→Jao
open _root_.Go.Act renaming put→ξ
open _root_.Go renaming World→ο,Calls→Ζ,Addr→Κ,wp_region_lit→Jam
open _root_.Bool renaming false→ρ,true→τ
open _root_.Go.RowKit renaming Below→σ
open _root_.Nat renaming le_refl→Δ,le_trans→Λ,add_zero→Jac,zero_le→Jas
open _root_.Go.RowKit.Below renaming refl→Θ
open _root_.Go.Addr renaming add_lit→Ν
def wZ (W:ο) (R:SS × Int) (e:Ending) (w':ο):Prop:=
 σ W.heap.size W w'∧((R.2=0∧∃A n c Vs B m k Es C r rc G,e=.returned (Ξ #[φ #[γ A n c,γ B m k,γ C r rc],J 0])∧mh w' W.heap.size A n c Vs B m k Es C r rc G∧(Vs.map vS,Es,G)=R.1)∨(R.2≠0∧e=.returned (Ξ #[φ #[γ ε 0 0,γ ε 0 0,γ ε 0 0],J R.2])))
theorem pq {P:Program} {fn:Func} {R:Ending→ο→Prop} {a:Act} {w:ο} {p q:Tmp} {t:TypeId} (h:fn.results=#[.cell p t,.tmp q]) (g:Nat) {t':TypeId} {cs:List Value} {d:TypeDesc}
 (hp:a.tmps.getD p undef=υ (ζ ⟨g,0,ε⟩)) (hW:Whole w g t' cs) (hu:P.underlying t=ζ d) (hd:d.isRow=τ) (hi:(P.info? t).map (·.size)=ζ cs.length)
 (v:Value) (hv:a.tmps.getD q undef=v) (Qe:a.defers=[]) (hR:R (.returned (Ξ #[φ cs.toArray,v])) w):bodyPost P fn R .ret a w:=by
 refine bodyPost_ret (v:=Ξ #[φ cs.toArray,v]) ?_ Qe hR
 have hl:=run_loadVar_mid (P:=P) w g 0 t cs d (fun j v hv=>by
  have:=hW.cell hv
  simpa using this) hu hd hi
 rw[Array.getD_eq_getD_getElem?] at hp hv;simp[results,h,hp,hv,asAddr,Sem.run_bind,Result.andThen,hl]
theorem JV {S0:SS} {L:List dR} {S:SS} {j:Nat} {o:dR} (h:jT S0 L=jT S (L.drop j)) (ho:L[j]? =ζ o) (hk:(bQ S o).2=0):jT S0 L=jT (bQ S o).1 (L.drop (j+1)):=by
 have hj:=(ν.1 ho).1;have e:L.drop j=o::L.drop (j+1):=by rw[Χ hj,(ν.1 ho).2]
 rw[h,e]
 show(if (bQ S o).2=0 then _ else _)=_
 rw[if_pos hk]
theorem J7 {S0:SS} {L:List dR} {S:SS} {j:Nat} {o:dR} (h:jT S0 L=jT S (L.drop j)) (ho:L[j]? =ζ o) (hk:¬(bQ S o).2=0):jT S0 L=(dv,(bQ S o).2):=by
 have hj:=(ν.1 ho).1;have e:L.drop j=o::L.drop (j+1):=by rw[Χ hj,(ν.1 ho).2]
 rw[h,e]
 show(if (bQ S o).2=0 then _ else _)=_
 rw[if_neg hk]
theorem bK.so {w W:ο} {lo g:Nat} {A:Option Κ} {n c:Nat} {Vs:List VC} {B:Option Κ} {m k:Nat} {Es:List EC} {C:Option Κ} {r rc:Nat} {G:List Gn} (h:bK w lo g A n c Vs B m k Es C r rc G W):mh W w.heap.size A n c Vs B m k Es C r rc G:=
 ⟨eG h.v h.lo_,eG h.e h.lo_,h.rg,eG h.gn h.lo_⟩
theorem mh.cellT {W:ο} {lo g:Nat} {A:Option Κ} {n c:Nat} {Vs:List VC} {B:Option Κ} {m k:Nat} {Es:List EC} {C:Option Κ} {r rc:Nat} {G:List Gn} {cs:List Value} (h:mh W lo A n c Vs B m k Es C r rc G) (hw:Whole W g 28 cs) (i:Nat) (u:Value):mh (W.setCell ⟨g,i,ε⟩ u) lo A n c Vs B m k Es C r rc G:=
 ⟨aT h.v (bD h.v hw (by decide)) _,aT h.e (bD h.e hw (by decide)) _,fun x hx=>(h.rg x hx).cell hw (by decide) _ _,aT h.gn (bD h.gn hw (by decide)) _⟩
def DoK (o:dR):Prop:=iu o=0→∀{w W:ο} {lo g:Nat} {A:Option Κ} {n c:Nat} {Vs:List VC} {B:Option Κ} {m k:Nat} {Es:List EC} {C:Option Κ} {r rc:Nat} {G:List Gn},bK w lo g A n c Vs B m k Es C r rc G W→gD (Vs.map vS,Es,G)→Ζ η 68 #[υ (ζ ⟨g,0,ε⟩),φ (ak o).toArray] W (cG w W lo g (bQ (Vs.map vS,Es,G) o))
section
variable {W:ο} {A:Option Κ} {n c:Nat} {Vs:List VC} {B:Option Κ} {m k:Nat} {Es:List EC} {C:Option Κ} {r rc:Nat} {G:List Gn}
theorem done_k (h:bz W A n c Vs B m k Es) (hg:bg W W.heap.size 6 C r rc (ah cZ G)) (hS:gD (Vs.map vS,Es,G)) (PA:Option Κ) (pn pc:Nat) (L:List dR) (hL:bg W W.heap.size 20 PA pn pc (ah ak L)) (ti:pn≤1000) (ho:∀o∈L,iu o=0) (hdk:∀o∈L,DoK o):
 Ζ η 44 #[φ #[γ A n c,γ B m k,γ C r rc],γ PA pn pc] W (wZ W (jT (Vs.map vS,Es,G) L)):=by
 have QV:Vs.length=n:=h.v.rlen aS (by decide);have Fb:Es.length=m:=h.e.rlen bM (by decide);have Fm:G.length=r:=hg.rlen bT (by decide);have hn:n≤1000:=by have:=hS.v24;rw[List.length_map] at this;omega
 have hm:m≤1000:=by have h1:Es.length≤40:=hS.e40;omega
 have hr:r≤1000:=by have h1:G.length≤400:=hS.g400;omega
 have fy:∀x∈Vs,x.2.1.2.1≤1000000:=fun x hx=>by
  have h1:=hS.short (vS x) (List.mem_map.2 ⟨x,hx,rfl⟩);have h2:x.2.1.2.2.2.length=x.2.1.2.1:=(h.r x hx).2.dlen;have h3:x.2.1.2.2.2.length≤80:=h1;omega
 have wN:L.length=pn:=hL.rlen eB (by decide);have fp:σ W.heap.size W ((W.alloc (δ #[γ A n c,γ B m k,γ C r rc] 28)).alloc (δ #[γ ε 0 0,γ ε 0 0,γ ε 0 0] 28)):=aI (az W _) _;have HC:Hid (∀X,σ W.heap.size W X→Ζ η 55 #[φ #[γ A n c,γ B m k,γ C r rc]] X fun e w'=>∃A' c' B' k' C' iv Ws,e=.returned (φ #[γ A' n c',γ B' m k',γ C' r iv])∧mh w' X.heap.size A' n c' Ws B' m k' Es C' r iv G∧Ws.map vS=Vs.map vS∧σ X.heap.size X w'):=qh (fun X hX=>ud (h.below hX) (hg.bl hX) hn hm hr fy);have Je:=qh hL;have mQ:=qh hS;have WT:=qh ho;have HDk:=qh hdk;have WZ:=qh wN;have bw:=qh fp;have aQ:Hid (Whole ((W.alloc (δ #[γ A n c,γ B m k,γ C r rc] 28)).alloc (δ #[γ ε 0 0,γ ε 0 0,γ ε 0 0] 28)) W.heap.size 28 [γ A n c,γ B m k,γ C r rc]):=qh ((Whole.new_ _ _ [_,_,_]).al _);have mf:Hid (Whole ((W.alloc (δ #[γ A n c,γ B m k,γ C r rc] 28)).alloc (δ #[γ ε 0 0,γ ε 0 0,γ ε 0 0] 28)) (W.heap.size+1) 28 [γ ε 0 0,γ ε 0 0,γ ε 0 0]):=qh (Whole.new2 (by simp));clear h hg hS hL ho hdk wN fp fy QV Fb Fm;go_enter Tryz.func44,Tryz.ntmps44;go_upto_region 1 with fail
 obtain⟨W0,bO⟩:=aB (((W.alloc (δ #[γ A n c,γ B m k,γ C r rc] 28)).alloc (δ #[γ ε 0 0,γ ε 0 0,γ ε 0 0] 28)));obtain⟨b1,dE⟩:=aB (W.heap.size+1);obtain⟨b0,bp⟩:=aB W.heap.size;have L1:Hid (W.heap.size≤b1):=qh (by omega);rw[bO] at bw aQ mf ⊢;rw[dE] at mf ⊢;rw[bp] at aQ ⊢;clear bO bp dE;have x0:=aQ.out.cell (i:=0) rfl;have x1:=aQ.out.cell (i:=1) rfl;have x2:=aQ.out.cell (i:=2) rfl
 go_upto_region 2 with (first
  |(go_at_call 55
    refine(HC.out _ bw.out).mono ?_
    rintro e w5 ⟨A5,c5,B5,k5,C5,Xx,Ws,rfl,SD,S1,fP⟩;have l6:=qh SD;have Sn:=qh S1;have kF:=qh fP;have DF:=qh (mf.out.bl fP);clear SD S1 fP x0 x1 x2 aQ mf HC))
 have HT:Hid (bK W W0.heap.size w5.heap.size A5 n c5 Ws B5 m k5 Es C5 r Xx G (w5.alloc (δ #[γ A5 n c5,γ B5 m k5,γ C5 r Xx] 28))):=qh (by
  have hu:=l6.out.up (az w5 (δ #[γ A5 n c5,γ B5 m k5,γ C5 r Xx] 28));exact⟨Whole.new_ _ _ [_,_,_],hu.v,hu.e,hu.rg,hu.gn,aI (ag bw.out kF.out) _,bw.out.size,Λ kF.out.size (az w5 _).size,Λ bw.out.size kF.out.size⟩)
 have HZ6:=qh (DF.out.al (δ #[γ A5 n c5,γ B5 m k5,γ C5 r Xx] 28));have Ng:Hid (b1≠w5.heap.size):=qh (by have:=DF.out.lt;omega);obtain⟨w0,Pr⟩:=aB (w5.alloc (δ #[γ A5 n c5,γ B5 m k5,γ C5 r Xx] 28));obtain⟨g,gg⟩:=aB w5.heap.size;obtain⟨lo,Su⟩:=aB W0.heap.size;rw[Pr] at HT HZ6 ⊢;rw[gg] at HT Ng ⊢;rw[Su] at HT;have HO:Hid (gD (Ws.map vS,Es,G)):=qh (by rw[Sn.out];exact mQ.out);have HA:Hid (jT (Vs.map vS,Es,G) L=jT (Ws.map vS,Es,G) (L.drop 0)):=qh (by rw[Sn.out];rfl);clear Pr gg Su l6 kF DF bw Sn;go_wp2;go_loopw [14] (fun i wr=>∃(j:Nat) (A:Option Κ) (n c:Nat) (Vq:List VC) (B:Option Κ) (m k:Nat) (SF:List EC) (C:Option Κ) (r rc:Nat) (Gq:List Gn),j≤pn∧i=J (j:Int)∧Hid (bK W lo g A n c Vq B m k SF C r rc Gq wr)∧Hid (gD (Vq.map vS,SF,Gq))∧Hid (jT (Vs.map vS,Es,G) L=jT (Vq.map vS,SF,Gq) (L.drop j))∧Hid (aJ g w0 wr)) (fun i _=>pn - (intOf i).toNat)
 case atStart=>exact⟨0,A5,n,c5,Ws,B5,m,k5,Es,C5,r,Xx,G,Jas _,rfl,HT,HO,HA,qh (aJ.refl g _)⟩
 case round=>
  clear HT HO HA;obtain⟨j,A,n,c,Vq,B,m,k,SF,C,r,rc,Gq,hj,rfl,HT,HO,HA,HK⟩:=hrel;have Mf:=qh (HK.out.w _ _ _ HZ6.out Ng.out (by decide) (by decide) (by decide));have Ll:=WZ.out
  by_cases dz:j<pn
  ·have BD:L[j]? =ζ (L[j]'(by omega)):=θ _;obtain⟨o,go⟩:=aB (L[j]'(by omega));rw[go] at BD;have Ht:=qh BD;have Tp:Hid (iu o=0):=qh (WT.out o (ω BD));have HDm:Hid (DoK o):=qh (HDk.out o (ω BD));obtain⟨b,off,rfl,aY,a8⟩:=(Je.out.bl HT.out.below).place eB (by decide) (by omega);have HP:=qh (a8 j o BD);clear go BD a8 aY Ll;obtain⟨⟨T,x⟩,gk⟩:∃z,bQ (Vq.map vS,SF,Gq) o=z:=⟨_,rfl⟩
   have HD:Hid (∀X,bK W lo g A n c Vq B m k SF C r rc Gq X→Ζ η 68 #[υ (ζ ⟨g,0,ε⟩),φ (ak o).toArray] X (cG W X lo g (T,x))):=qh (fun X hX=>gk▸HDm.out Tp.out hX HO.out);have ZE:=qh gk;clear gk;go_upto_region 4 with fail
   refine Jam ?_;refine a7 (v:=?_) (ζ 16) rfl (by rfl) ?_ ?_;rotate_left
   ·go_simp;(try with_reducible rfl)
   simp only[ξ,aw,ar,aq];refine wR (ζ 17) rfl (by rfl) 36 (.tmp 16) rfl ⟨b,off+j*20,ε⟩ rfl (ak o) _ HP.out Tryz.underlying36 rfl (by kernel_rfl) ?_;simp only[ξ,aw,ar,aq];refine Om 8 rfl rfl rfl 36 (.tmp 17) rfl rfl #[J 0,J 0,J 0,J 0,J 0,J 0,J 0,J 0,J 0,J 0,J 0,J 0,J 0,J 0,J 0,J 0,J 0,Β ρ,.string ⟨#[]⟩,J 0] ?_ (ak o).toArray (by simp) rfl (by kernel_rfl) rfl (uw o) ?_
   ·go_simp;(try with_reducible rfl)
   simp only[ξ,aw,ar,aq];have XR:=qh (HT.out.al (δ (ak o).toArray 36));have jG:=qh (HK.out.trans (aJ.of_below (az wr (δ (ak o).toArray 36))));have HN:Hid (Whole (wr.alloc (δ (ak o).toArray 36)) wr.heap.size 36 (ak o)):=qh (Whole.new_ _ _ _);obtain⟨W2,eU⟩:=aB (wr.alloc (δ (ak o).toArray 36));obtain⟨g2,mA⟩:=aB wr.heap.size;rw[eU] at XR jG HN ⊢;rw[mA] at HN ⊢;clear eU mA HT HK Mf HP;go_upto_region 5 with fail
   refine Jam ?_;refine eJ (ζ 18) rfl (by rfl) 36 (.tmp 8) rfl g2 rfl 36 (ak o) _ HN.out Tryz.underlying36 rfl (by kernel_rfl) ?_;simp only[ξ,aw,ar,aq];go_wp2_with fail
   refine(HD.out _ XR.out).mono ?_
   rintro e w3 ⟨rfl,bA,Ec,hd3⟩;have bB:=qh bA;have BF:=qh (jG.out.trans Ec);clear bA Ec XR jG HN HD
   by_cases hx:x=0
   ·subst hx;obtain⟨A',n',c',V',B',m',k',E',C',r',iv,G',u6,AQ⟩:=hd3 rfl;have Xa:=qh u6
    have Ck:Hid (gD (V'.map vS,E',G')):=qh (by
     have:=HO.out.kind Tp.out
     rw[ZE.out] at this;rw[AQ];exact this)
    have HA3:Hid (jT (Vs.map vS,Es,G) L=jT (V'.map vS,E',G') (L.drop (j+1))):=qh (by
     have:=JV HA.out Ht.out (by rw[ZE.out])
     rw[ZE.out] at this;rw[AQ];exact this)
    clear u6 AQ hd3;go_wp2;go_roundw
    case rel=>exact⟨j+1,_,_,_,_,_,_,_,_,_,_,_,_,by omega,by go_num,Xa,Ck,HA3,BF⟩
    case measure=>simp[intOf];omega
   ·have q:(x==0)=ρ:=by simpa using hx
    have q':(x !=0)=τ:=by simpa using hx
    have rK:Hid (jT (Vs.map vS,Es,G) L=(dv,x)):=qh (by
     have:=J7 HA.out Ht.out (by rw[ZE.out];exact hx)
     rw[ZE.out] at this;exact this)
    have xK:=qh hx;have jk:=qh (BF.out.w _ _ _ HZ6.out Ng.out (by decide) (by decide) (by decide));have z0:=jk.out.cell (i:=0) rfl;have z1:=jk.out.cell (i:=1) rfl;have z2:=jk.out.cell (i:=2) rfl;have y0_:=jk.out.free 0;have y1_:=jk.out.free 1;have y2_:=jk.out.free 2;clear hx hd3 BF;go_wp2;exact pq rfl b1 rfl (((jk.out.set_ 0 (γ ε 0 0)).set_ 1 (γ ε 0 0)).set_ 2 (γ ε 0 0)) Tryz.underlying28 rfl (by kernel_rfl) _ rfl rfl (by rw[rK.out];exact⟨(((bB.out.setCell (p:=⟨b1,0,ε⟩) L1.out (γ ε 0 0)).setCell (p:=⟨b1,1,ε⟩) L1.out (γ ε 0 0)).setCell (p:=⟨b1,2,ε⟩) L1.out (γ ε 0 0)),.inr ⟨xK.out,rfl⟩⟩)
  ·obtain rfl:j=pn:=by omega
   have rK:Hid (jT (Vs.map vS,Es,G) L=((Vq.map vS,SF,Gq),0)):=qh (by
    have:=HA.out
    rw[Jak (by omega)] at this;exact this)
   have s0:=HT.out.s.cell (i:=0) rfl;have s1:=HT.out.s.cell (i:=1) rfl;have s2:=HT.out.s.cell (i:=2) rfl;have ng:g≠b1:=fun e=>Ng.out e.symm
   have z0:=Mf.out.cell (i:=0) rfl;have z1:=Mf.out.cell (i:=1) rfl;have z2:=Mf.out.cell (i:=2) rfl;have y0_:=Mf.out.free 0;have y1_:=Mf.out.free 1;have y2_:=Mf.out.free 2;have HSo:=qh (((HT.out.so.cellT Mf.out 0 (γ A n c)).cellT (Mf.out.set_ 0 (γ A n c)) 1 (γ B m k)).cellT ((Mf.out.set_ 0 (γ A n c)).set_ 1 (γ B m k)) 2 (γ C r rc));clear Ll;go_wp2;exact pq rfl b1 rfl (((Mf.out.set_ 0 (γ A n c)).set_ 1 (γ B m k)).set_ 2 (γ C r rc)) Tryz.underlying28 rfl (by kernel_rfl) _ rfl rfl (by rw[rK.out];exact⟨(((HT.out.below.setCell (p:=⟨b1,0,ε⟩) L1.out (γ A n c)).setCell (p:=⟨b1,1,ε⟩) L1.out (γ B m k)).setCell (p:=⟨b1,2,ε⟩) L1.out (γ C r rc)),.inl ⟨rfl,A,n,c,Vq,B,m,k,SF,C,r,rc,Gq,rfl,HSo.out,rfl⟩⟩)
end
theorem MN {S:SS} {o:dR} (h:¬(bQ S o).2=0):(bQ S o).1=dv:=by
 revert h;unfold bQ og oc fO jK dJ gU setS
 repeat' (first|split|(intro h;first|rfl|exact absurd rfl h)|dsimp only)
theorem RX (S:SS) (o:dR):jT S [o]=bQ S o:=by
 show(if (bQ S o).2=0 then((bQ S o).1,0) else(dv,(bQ S o).2))=_
 by_cases h:(bQ S o).2=0
 ·rw[if_pos h];exact Prod.ext rfl h.symm
 ·rw[if_neg h];exact Prod.ext (MN h).symm rfl
theorem mh.lo_ {W:ο} {lo lo':Nat} {A:Option Κ} {n c:Nat} {Vs:List VC} {B:Option Κ} {m k:Nat} {Es:List EC} {C:Option Κ} {r rc:Nat} {G:List Gn} (h:mh W lo A n c Vs B m k Es C r rc G) (hl:lo'≤lo):mh W lo' A n c Vs B m k Es C r rc G:=
 ⟨sM h.v hl,sM h.e hl,h.rg,sM h.gn hl⟩
theorem mh.dg {W:ο} {lo:Nat} {A:Option Κ} {n c:Nat} {Vs:List VC} {B:Option Κ} {m k:Nat} {Es:List EC} {C:Option Κ} {r rc:Nat} {G:List Gn} (h:mh W lo A n c Vs B m k Es C r rc G):bz W A n c Vs B m k Es:=
 ⟨aK h.v,aK h.e,fun x hx=>⟨(h.rg x hx).1,(h.rg x hx).2.1⟩⟩
theorem zB:∀{L:List dR},fY L=0→∀o∈L,iu o=0
 |[],_,_,ho=>by cases ho
 |u::L,h,o,ho=>by
  have h1:(if iu u=0 then fY L else iu u)=0:=h
  by_cases q:iu u=0
  ·rw[if_pos q] at h1;rcases List.mem_cons.1 ho with rfl|ho
   ·exact q
   ·exact zB h1 o ho
  ·rw[if_neg q] at h1;exact absurd h1 q
theorem M1 {L:List dR} (h:pB L=0):∀o∈L,iu o=0:=by
 unfold pB at h;split at h
 ·exact absurd h (by decide)
 ·exact zB h
theorem xd (o:dR):ah ak [o]=ak o:=by simp[ah]
section
variable {W:ο} {A:Option Κ} {n c:Nat} {Vs:List VC} {B:Option Κ} {m k:Nat} {Es:List EC} {C:Option Κ} {r rc:Nat} {G:List Gn}
theorem apply12_k (h:bz W A n c Vs B m k Es) (hg:bg W W.heap.size 6 C r rc (ah cZ G)) (hS:gD (Vs.map vS,Es,G)) (PA:Option Κ) (pn pc:Nat) (L:List dR) (hL:bg W W.heap.size 20 PA pn pc (ah ak L)) (ti:pn≤maxLen) (hdk:∀o∈L,DoK o):
 Ζ η 18 #[φ #[γ A n c,γ B m k,γ C r rc],φ #[γ PA pn pc]] W (wZ W (la (Vs.map vS,Es,G) L)):=by
 have wN:L.length=pn:=hL.rlen eB (by decide);have HM:Hid (∀X,σ W.heap.size W X→Ζ η 54 #[φ #[γ PA pn pc]] X fun e w'=>e=.returned (J (pB L))∧σ X.heap.size X w'):=qh (fun X hX=>Cp PA pn pc L X (hL.bl hX) ti)
 have HD:Hid (pB L=0→∀X,σ W.heap.size W X→Ζ η 44 #[φ #[γ A n c,γ B m k,γ C r rc],γ PA pn pc] X (wZ X (jT (Vs.map vS,Es,G) L))):=qh (fun h0 X hX=>by
  have h6:pn≤6:=by
   by_cases q:L.length<1∨6<L.length
   ·unfold pB at h0;rw[if_pos q] at h0;exact absurd h0 (by decide)
   ·omega
  exact done_k (h.below hX) (hg.bl hX) hS PA pn pc L (hL.bl hX) (by omega) (M1 h0) hdk)
 clear h hg hS hL ti hdk wN;go_enter Tryz.func18,Tryz.ntmps18;go_upto_region 1 with fail
 obtain⟨W0,b0,b1,b2,bO,bp,dE,jc,aQ,aL,aZ,bw,-,-,oa,-,iP,-,eI,uW,RA,tU⟩:=Bs W 28 [γ A n c,γ B m k,γ C r rc] 49 [γ PA pn pc] 28 [γ ε 0 0,γ ε 0 0,γ ε 0 0];rw[bO,jc,dE,bp];clear bO bp dE jc;have x1:=aL.out.cell (i:=0) rfl;obtain⟨x,gx⟩:=aB (pB L);rw[gx] at HM HD;have GX:=qh gx;clear gx
 go_upto_region 2 with (first
  |(go_at_call 54
    refine(HM.out _ bw.out).mono ?_
    rintro e w2 ⟨rfl,aP⟩;have bG:=qh (ag bw.out aP);have fk:=qh (aQ.out.bl aP);have mZ:=qh (aL.out.bl aP);have rG:=qh (aZ.out.bl aP);clear aP x1 aQ aL aZ bw HM))
 by_cases hx:x=0
 ·subst hx;have HR:Hid (la (Vs.map vS,Es,G) L=jT (Vs.map vS,Es,G) L):=qh (by unfold la;rw[if_pos GX.out]);have xN:=qh (HD.out rfl _ bG.out);have x0:=fk.out.cell (i:=0) rfl;have x1:=fk.out.cell (i:=1) rfl;have x2:=fk.out.cell (i:=2) rfl;have x3:=mZ.out.cell (i:=0) rfl;clear GX HD;go_wp2_with fail
  refine xN.out.mono ?_;clear x0 x1 x2 x3;rintro e w3 ⟨bA,h3⟩;have bB:=qh (ag bG.out bA);have jk:=qh (rG.out.bl bA);have z0:=jk.out.cell (i:=0) rfl;have MS:=jk.out.free 0;have z1:=jk.out.cell (i:=1) rfl;have Ld:=jk.out.free 1;have z2:=jk.out.cell (i:=2) rfl;have Mt:=jk.out.free 2;rcases h3 with⟨hx,A',n',c',V',B',m',k',E',C',r',iv,G',rfl,u6,AQ⟩|⟨hx,rfl⟩
  ·have gE:=qh (u6.lo_ (lo':=W.heap.size) bG.out.size);have sO:=qh AQ;have cF:=qh hx;clear u6 AQ hx bA;go_wp2;exact pq rfl b2 rfl (((jk.out.set_ 0 (γ A' n' c')).set_ 1 (γ B' m' k')).set_ 2 (γ C' r' iv)) Tryz.underlying28 rfl (by kernel_rfl) _ rfl rfl (by rw[HR.out];exact⟨(((bB.out.setCell (p:=⟨b2,0,ε⟩) eI.out (γ A' n' c')).setCell (p:=⟨b2,1,ε⟩) eI.out (γ B' m' k')).setCell (p:=⟨b2,2,ε⟩) eI.out (γ C' r' iv)),.inl ⟨cF.out,A',n',c',V',B',m',k',E',C',r',iv,G',rfl,(((gE.out.cellT jk.out 0 (γ A' n' c')).cellT (jk.out.set_ 0 (γ A' n' c')) 1 (γ B' m' k')).cellT ((jk.out.set_ 0 (γ A' n' c')).set_ 1 (γ B' m' k')) 2 (γ C' r' iv)),sO.out⟩⟩)
  ·have cF:=qh hx;obtain⟨x,gx⟩:=aB ((jT (Vs.map vS,Es,G) L).2);rw[gx];have GX:=qh gx;clear hx bA gx;go_wp2;exact pq rfl b2 rfl (((jk.out.set_ 0 (γ ε 0 0)).set_ 1 (γ ε 0 0)).set_ 2 (γ ε 0 0)) Tryz.underlying28 rfl (by kernel_rfl) _ rfl rfl (by rw[HR.out];exact⟨(((bB.out.setCell (p:=⟨b2,0,ε⟩) eI.out (γ ε 0 0)).setCell (p:=⟨b2,1,ε⟩) eI.out (γ ε 0 0)).setCell (p:=⟨b2,2,ε⟩) eI.out (γ ε 0 0)),.inr ⟨cF.out,by rw[GX.out];rfl⟩⟩)
 ·have q:(x==0)=ρ:=by simpa using hx
  have q':(x !=0)=τ:=by simpa using hx
  have HR:Hid (la (Vs.map vS,Es,G) L=(dv,x)):=qh (by unfold la;rw[GX.out,if_neg hx]);have HX:=qh hx;have z0:=rG.out.cell (i:=0) rfl;have MS:=rG.out.free 0;have z1:=rG.out.cell (i:=1) rfl;have Ld:=rG.out.free 1;have z2:=rG.out.cell (i:=2) rfl;have Mt:=rG.out.free 2;clear hx GX HD;go_wp2;exact pq rfl b2 rfl (((rG.out.set_ 0 (γ ε 0 0)).set_ 1 (γ ε 0 0)).set_ 2 (γ ε 0 0)) Tryz.underlying28 rfl (by kernel_rfl) _ rfl rfl (by rw[HR.out];exact⟨(((bG.out.setCell (p:=⟨b2,0,ε⟩) eI.out (γ ε 0 0)).setCell (p:=⟨b2,1,ε⟩) eI.out (γ ε 0 0)).setCell (p:=⟨b2,2,ε⟩) eI.out (γ ε 0 0)),.inr ⟨HX.out,rfl⟩⟩)
theorem one12_k (h:bz W A n c Vs B m k Es) (hg:bg W W.heap.size 6 C r rc (ah cZ G)) (hS:gD (Vs.map vS,Es,G)) (o:dR) (hdk:DoK o):
 Ζ η 14 #[φ #[γ A n c,γ B m k,γ C r rc],φ (ak o).toArray] W (wZ W (yi (Vs.map vS,Es,G) o)):=by
 have HD:Hid (iu o=0→∀X,σ W.heap.size W X→∀g,Whole X g 36 (ak o)→Ζ η 44 #[φ #[γ A n c,γ B m k,γ C r rc],γ (ζ ⟨g,0,ε⟩) 1 1] X (wZ X (bQ (Vs.map vS,Es,G) o))):=qh (fun h0 X hX g hw=>by
  rw[←RX];exact done_k (h.below hX) (hg.bl hX) hS _ 1 1 [o] (by rw[xd];exact bg.of_whole hw rfl) (by decide) (fun u hu=>by obtain rfl:=Jao.1 hu;exact h0) (fun u hu=>by obtain rfl:=Jao.1 hu;exact hdk))
 clear h hg hS hdk;go_enter Tryz.func14,Tryz.ntmps14;go_upto_region 1 with fail
 obtain⟨W0,b0,b1,b2,bO,bp,dE,jc,aQ,aL,aZ,bw,-,-,oa,-,iP,-,eI,uW,RA,tU⟩:=Bs W 28 [γ A n c,γ B m k,γ C r rc] 36 (ak o) 28 [γ ε 0 0,γ ε 0 0,γ ε 0 0];rw[bO,jc,dE,bp];clear bO bp dE jc;obtain⟨x,gx⟩:=aB (iu o);have HM:Hid (∀X,Ζ η 43 #[φ (ak o).toArray] X fun e w'=>e=.returned (J x)∧σ X.heap.size X w'):=qh (fun X=>gx▸yx o X);rw[gx] at HD;have GX:=qh gx;clear gx;refine Jam ?_;refine eJ (ζ 7) rfl (by rfl) 36 (.tmp 3) rfl b1 rfl 36 (ak o) _ aL.out Tryz.underlying36 rfl (by kernel_rfl) ?_;simp only[ξ,aw,ar,aq]
 go_upto_region 2 with (first
  |(go_at_call 43
    refine(HM.out _).mono ?_
    rintro e w2 ⟨rfl,aP⟩;have bG:=qh (ag bw.out aP);have fk:=qh (aQ.out.bl aP);have mZ:=qh (aL.out.bl aP);have rG:=qh (aZ.out.bl aP);clear aP aQ aL aZ bw HM))
 by_cases hx:x=0
 ·subst hx;have HR:Hid (yi (Vs.map vS,Es,G) o=bQ (Vs.map vS,Es,G) o):=qh (by unfold yi;rw[if_pos GX.out]);clear GX;go_upto_region 4 with fail
  refine Jam ?_;refine eJ (ζ 13) rfl (by rfl) 28 (.tmp 2) rfl b0 rfl 28 [γ A n c,γ B m k,γ C r rc] _ fk.out Tryz.underlying28 rfl (by kernel_rfl) ?_;simp only[ξ,aw,ar,aq];refine eJ (ζ 14) rfl (by rfl) 36 (.tmp 3) rfl b1 rfl 36 (ak o) _ mZ.out Tryz.underlying36 rfl (by kernel_rfl) ?_;simp only[ξ,aw,ar,aq];refine gS (ζ 15) rfl (by rfl) 47 36 1 #[(0,.tmp 14)] (by rfl) Tryz.underlying47 (ak o).toArray (by kernel_rfl) ?_;simp only[ξ,aw,ar,aq];have xN:=qh (HD.out rfl (w2.alloc (δ (ak o).toArray 36)) (aI bG.out _) _ (Whole.new_ _ _ _));have nK:=qh (rG.out.al (δ (ak o).toArray 36));have Vb:=qh (aI bG.out (δ (ak o).toArray 36));obtain⟨w4,NP⟩:=aB (w2.alloc (δ (ak o).toArray 36));rw[NP] at xN nK Vb ⊢;clear NP HD;go_wp2_with fail
  refine xN.out.mono ?_;rintro e w3 ⟨bA,h3⟩;have bB:=qh (ag Vb.out bA);have jk:=qh (nK.out.bl bA);have z0:=jk.out.cell (i:=0) rfl;have MS:=jk.out.free 0;have z1:=jk.out.cell (i:=1) rfl;have Ld:=jk.out.free 1;have z2:=jk.out.cell (i:=2) rfl;have Mt:=jk.out.free 2;rcases h3 with⟨hx,A',n',c',V',B',m',k',E',C',r',iv,G',rfl,u6,AQ⟩|⟨hx,rfl⟩
  ·have gE:=qh (u6.lo_ (lo':=W.heap.size) Vb.out.size);have sO:=qh AQ;have cF:=qh hx;clear u6 AQ hx bA;go_wp2;exact pq rfl b2 rfl (((jk.out.set_ 0 (γ A' n' c')).set_ 1 (γ B' m' k')).set_ 2 (γ C' r' iv)) Tryz.underlying28 rfl (by kernel_rfl) _ rfl rfl (by rw[HR.out];exact⟨(((bB.out.setCell (p:=⟨b2,0,ε⟩) eI.out (γ A' n' c')).setCell (p:=⟨b2,1,ε⟩) eI.out (γ B' m' k')).setCell (p:=⟨b2,2,ε⟩) eI.out (γ C' r' iv)),.inl ⟨cF.out,A',n',c',V',B',m',k',E',C',r',iv,G',rfl,(((gE.out.cellT jk.out 0 (γ A' n' c')).cellT (jk.out.set_ 0 (γ A' n' c')) 1 (γ B' m' k')).cellT ((jk.out.set_ 0 (γ A' n' c')).set_ 1 (γ B' m' k')) 2 (γ C' r' iv)),sO.out⟩⟩)
  ·have cF:=qh hx;obtain⟨x,gx⟩:=aB ((bQ (Vs.map vS,Es,G) o).2);rw[gx];have GX:=qh gx;clear hx bA gx;go_wp2;exact pq rfl b2 rfl (((jk.out.set_ 0 (γ ε 0 0)).set_ 1 (γ ε 0 0)).set_ 2 (γ ε 0 0)) Tryz.underlying28 rfl (by kernel_rfl) _ rfl rfl (by rw[HR.out];exact⟨(((bB.out.setCell (p:=⟨b2,0,ε⟩) eI.out (γ ε 0 0)).setCell (p:=⟨b2,1,ε⟩) eI.out (γ ε 0 0)).setCell (p:=⟨b2,2,ε⟩) eI.out (γ ε 0 0)),.inr ⟨cF.out,by rw[GX.out];rfl⟩⟩)
 ·have q:(x==0)=ρ:=by simpa using hx
  have q':(x !=0)=τ:=by simpa using hx
  have HR:Hid (yi (Vs.map vS,Es,G) o=(dv,x)):=qh (by unfold yi;rw[GX.out,if_neg hx]);have HX:=qh hx;have z0:=rG.out.cell (i:=0) rfl;have MS:=rG.out.free 0;have z1:=rG.out.cell (i:=1) rfl;have Ld:=rG.out.free 1;have z2:=rG.out.cell (i:=2) rfl;have Mt:=rG.out.free 2;clear hx GX HD;go_wp2;exact pq rfl b2 rfl (((rG.out.set_ 0 (γ ε 0 0)).set_ 1 (γ ε 0 0)).set_ 2 (γ ε 0 0)) Tryz.underlying28 rfl (by kernel_rfl) _ rfl rfl (by rw[HR.out];exact⟨(((bG.out.setCell (p:=⟨b2,0,ε⟩) eI.out (γ ε 0 0)).setCell (p:=⟨b2,1,ε⟩) eI.out (γ ε 0 0)).setCell (p:=⟨b2,2,ε⟩) eI.out (γ ε 0 0)),.inr ⟨HX.out,rfl⟩⟩)
end
section
variable {W:ο} {A:Option Κ} {n c:Nat} {Vs:List VC} {B:Option Κ} {m k:Nat} {Es:List EC} {C:Option Κ} {r rc:Nat} {G:List Gn}
theorem uG (W:ο):Ζ η 17 #[] W fun e w'=>e=.returned (φ #[γ ε 0 0,γ ε 0 0,γ ε 0 0])∧σ W.heap.size W w':=by
 go_enter Tryz.func17,Tryz.ntmps17;go_wp2;exact dO rfl W.heap.size rfl (Whole.new_ W 28 [γ ε 0 0,γ ε 0 0,γ ε 0 0]) Tryz.underlying28 rfl (by kernel_rfl) rfl ⟨rfl,az _ _⟩
end
theorem za (A:Option Κ) (n c:Nat) (L:List dR) (W:ο) (h:bg W W.heap.size 20 A n c (ah ak L)) (hn:n≤maxLen):
 Ζ η 19 #[φ #[γ A n c]] W fun e w'=>∃n',e=.returned (φ #[γ A n' c])∧bg w' w'.heap.size 20 A n' c (ah ak (L.take 8))∧n'≤8∧σ W.heap.size W w':=by
 have hl:L.length=n:=h.rlen eB (by decide);have hle:=h.le;have hH:=qh h;clear h;go_enter Tryz.func19,Tryz.ntmps19;go_upto_region 1 with fail
 obtain⟨W0,b0,b1,bO,bp,dE,aQ,aL,bw,-,-,oa,-,iP,uW⟩:=wT W 49 [γ A n c] 49 [γ ε 0 0];rw[bO,dE,bp];clear bO bp dE;have x0:=aQ.out.cell (i:=0) rfl
 by_cases h8:8<n
 ·have q1:(8:Int)<(n:Int):=by omega
  have h8c:8≤c:=by omega
  have HR:Hid (bg W W.heap.size 20 A 8 c (ah ak (L.take 8))):=qh (by
   have:=hH.out.take_ 8 (by omega)
   rwa [←iz ak eB] at this)
  clear hH hl hle;go_upto_region 2 with fail
  refine Jam ?_;refine a7 (v:=?_) (ζ 7) rfl (by rfl) ?_ ?_;rotate_left
  ·go_simp;(try with_reducible rfl)
  simp only[ξ,aw,ar,aq];refine a7 (v:=?_) (ζ 8) rfl (by rfl) ?_ ?_;rotate_left
  ·go_simp;(try with_reducible rfl)
  simp only[ξ,aw,ar,aq];refine a7 (ζ 9) rfl (by rfl) (uL 47 36 (.tmp 8) (.const (J 8)) rfl Tryz.underlying47 (s:=20) (by kernel_rfl) rfl (k:=8) rfl h8c) ?_;simp only[ξ,aw,ar,aq];have z0:=aL.out.cell (i:=0) rfl;have y0:=aL.out.free 0;go_wp2;have hb:=bw.out.setCell (p:=⟨b1,0,ε⟩) iP.out (γ A 8 c);exact dO rfl b1 rfl (aL.out.set_ 0 (γ A 8 c)) Tryz.underlying49 rfl (by kernel_rfl) rfl ⟨8,rfl,HR.out.bl hb,by decide,hb⟩
 ·have q1:¬(8:Int)<(n:Int):=by omega
  have HR:Hid (bg W W.heap.size 20 A n c (ah ak (L.take 8))):=qh (by rw[List.take_of_length_le (by omega)];exact hH.out);clear hH hl hle;have z0:=aL.out.cell (i:=0) rfl;have y0:=aL.out.free 0;have n01:=uW.out;go_wp2;have hb:=bw.out.setCell (p:=⟨b1,0,ε⟩) iP.out (γ A n c);exact dO rfl b1 rfl (aL.out.set_ 0 (γ A n c)) Tryz.underlying49 rfl (by kernel_rfl) rfl ⟨n,rfl,HR.out.bl hb,by omega,hb⟩
def addR (x:Gn):Bool→List Gn→List Gn
 |p,[]=>if p=τ then[] else[x]
 |p,y::G=>(if p=ρ∧cH x y≤0 then[x] else[])++((if y.1=x.1 then[] else[y])++addR x (p||decide (cH x y≤0)) G)
theorem addR_far {x:Gn}:∀{G:List Gn},(∀y∈G,¬y.1=x.1)→addR x τ G=G
 |[],_=>rfl
 |y::G,h=>by
  show(if τ=ρ∧_ then[x] else[])++((if y.1=x.1 then[] else[y])++addR x (τ||_) G)=y::G
  rw[if_neg (by simp),if_neg (h y List.mem_cons_self),Bool.true_or,addR_far (fun z hz=>h z (List.mem_cons_of_mem _ hz))];rfl
theorem addR_eq {x:Gn}:∀{G:List Gn},cT G→addR x ρ G=rq G x
 |[],_=>rfl
 |y::G,h=>by
  have hp:=q9 h;have hc:=List.pairwise_cons.1 hp;have hn:=sH y x
  have far:cH y x≥0→∀z∈G,¬z.1=x.1:=fun h0 z hz e=>by
   have h1:=hc.1 z hz;have h2:cH y z=cH y x:=by unfold cH;rw[e]
   omega
  show(if ρ=ρ∧cH x y≤0 then[x] else[])++((if y.1=x.1 then[] else[y])++addR x (ρ||decide (cH x y≤0)) G)=if cH y x<0 then y::rq G x else if cH y x=0 then x::G else x::y::G
  by_cases h1:cH y x<0
  ·have bj:¬y.1=x.1:=fun e=>by have:=(kL y x).2 e;omega
   rw[if_pos h1,if_neg (by omega),if_neg bj,decide_eq_false (by omega),Bool.false_or,addR_eq (qN h)];rfl
  ·rw[if_neg h1,if_pos ⟨rfl,by omega⟩,decide_eq_true (by omega),Bool.or_true,addR_far (far (by omega))]
   by_cases h2:cH y x=0
   ·rw[if_pos h2,if_pos ((kL y x).1 h2)];rfl
   ·rw[if_neg h2,if_neg (fun e=>h2 ((kL y x).2 e))];rfl
theorem addB_find (G:List Gn) (x:Gn):(fX G x.1).2=G.any (fun y=>decide (y.1=x.1)):=by
 induction G with
 |nil=>rfl
 |cons y G ih=>
  rw[fX,List.any_cons]
  by_cases e:y.1=x.1
  ·rw[if_pos e,decide_eq_true e];rfl
  ·rw[if_neg e,decide_eq_false e,Bool.false_or,ih]
theorem pushG {w W:ο} {B:Nat} {A:Option Κ} {n c:Nat} {T:List Gn} (iC:Ow w B 98 6 (γ A n c) n (ah cZ T) W) (x:Gn) (hn:n≤1000):
 ∃A' c' W',(Builtin.append_ #[26,26] 26 #[γ A n c,γ (ζ ⟨W.heap.size,0,ε⟩) 1 1]).run η (W.alloc (δ (cZ x).toArray 98))=.ok (γ A' (n+1) c') W'∧Ow w B 98 6 (γ A' (n+1) c') (n+1) (ah cZ (T++[x])) W':=by
 obtain⟨i,hi,qJ,ly,kK⟩:=aW mP;obtain⟨v',W',bV,ho,-⟩:=Ow.app (P:=η) 26 26 98 i _ 6 48 B Tryz.underlying26 hi qJ ly kK rfl (by decide) _ _ _ (iC.up (az W (δ (cZ x).toArray 98))) _ _ 1 1 _ (bg.of_whole (Whole.new_ W 98 (cZ x)) rfl) (kz x) (by unfold maxLen;omega) (by omega);rw[show ah cZ T++cZ x=ah cZ (T++[x]) by rw[bY];simp[ah]] at ho;obtain⟨A',c',rfl,-⟩:=ho.rds;exact⟨A',c',W',bV,ho⟩
theorem radd_any (A:Option Κ) (n c:Nat) (G:List Gn) (x:Gn) (w:ο) (h:bg w w.heap.size 6 A n c (ah cZ G)) (hn:n≤400) (hr:cT G):
 Ζ η 75 #[γ A n c,φ #[J x.1.1,J x.1.2.1,J x.1.2.2,J x.2.1,J x.2.2.1,J x.2.2.2]] w fun e w'=>∃A' n' c',e=.returned (γ A' n' c')∧bg w' w'.heap.size 6 A' n' c' (ah cZ (dP G x))∧σ w.heap.size w w':=by
 have hl:G.length=n:=h.rlen bT (by decide);obtain⟨⟨tq,ok⟩,gf⟩:∃z,fX G x.1=z:=⟨_,rfl⟩
 have hany:G.any (fun y=>decide (y.1=x.1))=ok:=by rw[←addB_find,gf]
 have HF:Hid (∀X,σ w.heap.size w X→Ζ η 101 #[γ A n c,φ #[J x.1.1,J x.1.2.1,J x.1.2.2]] X fun e w'=>e=.returned (Ξ #[φ #[J tq.1,J tq.2.1,J tq.2.2],Β ok])∧σ X.heap.size X w'):=qh (fun X hX=>by
  have:=rfind_any A n c G x.1 X (h.bl hX) (by omega)
  rwa [gf] at this)
 have H:=qh h;have HL:=qh hl;have HR:=qh hr;have HAn:=qh hany;have lQ:Whole (w.alloc (δ #[J x.1.1,J x.1.2.1,J x.1.2.2,J x.2.1,J x.2.2.1,J x.2.2.2] 98)) w.heap.size 98 (cZ x):=Whole.new_ w 98 (cZ x);have fp:=az w (δ #[J x.1.1,J x.1.2.1,J x.1.2.2,J x.2.1,J x.2.2.1,J x.2.2.2] 98);clear h hl hr gf hany;go_enter Tryz.func75,Tryz.ntmps75;go_upto_region 1 with fail
 obtain⟨w0,Pr⟩:=aB (w.alloc (δ #[J x.1.1,J x.1.2.1,J x.1.2.2,J x.2.1,J x.2.2.1,J x.2.2.2] 98));obtain⟨b0,bp⟩:=aB w.heap.size;rw[Pr] at lQ fp ⊢;rw[bp] at lQ ⊢;have aQ:=qh lQ;have bw:=qh fp;clear Pr bp lQ fp;have x0:=aQ.out.cell (i:=0) rfl;have x1:=aQ.out.cell (i:=1) rfl;have x2:=aQ.out.cell (i:=2) rfl
 go_upto_region 2 with (first
  |(go_at_call 101
    refine(HF.out _ bw.out).mono ?_
    rintro e w1 ⟨rfl,cP⟩;have bE:=qh (ag bw.out cP);have aL:=qh (aQ.out.bl cP);clear cP aQ bw x0 x1 x2))
 have bG:=qh (aI bE.out (δ #[J tq.1,J tq.2.1,J tq.2.2] 32));have aZ:=qh (aL.out.al (δ #[J tq.1,J tq.2.1,J tq.2.2] 32));obtain⟨w2,gw2⟩:=aB (w1.alloc (δ #[J tq.1,J tq.2.1,J tq.2.2] 32));rw[gw2] at bG aZ ⊢;clear gw2 bE aL HF
 by_cases hfull:ok=ρ∧400≤n
 ·obtain⟨rfl,h4⟩:=hfull;have q:(400:Int)≤(n:Int):=by omega
  have hA:dP G x=G:=Fz HAn.out (by rw[HL.out];exact h4);have HA:=qh hA;clear hA h4;go_wp2;go_ret;exact⟨A,n,c,rfl,by rw[HA.out];exact H.out.bl bG.out,bG.out⟩
 have HA:Hid (dP G x=addR x ρ G):=qh (by
  rw[addR_eq HR.out];cases hk:ok with
  |false=>
   have e:(G.any fun y=>decide (y.1=x.1))=ρ:=by rw[HAn.out,hk]
   exact EJ e (by rw[HL.out];exact fun q=>hfull ⟨hk,q⟩)
  |true=>
   have e:(G.any fun y=>decide (y.1=x.1))=τ:=by rw[HAn.out,hk]
   exact BN e (by rw[HL.out];omega))
 have h400:ok=τ∨n<400:=by
  cases hk:ok with
  |true=>exact .inl rfl
  |false=>exact .inr (Nat.lt_of_not_le (fun q=>hfull ⟨hk,q⟩))
 have q2:ok=ρ→¬(400:Int)≤(n:Int):=fun h=>by
  rcases h400 with h1|h1
  ·rw[h] at h1;cases h1
  ·omega
 have PC:Hid (Ow w2 w2.heap.size 98 6 (γ (ζ ⟨w2.heap.size,0,ε⟩) 0 0) 0 (ah cZ []) (w2.alloc (δ #[] 98))):=qh ⟨kk (junk:=[]) (show Whole (w2.alloc (δ #[] 98)) w2.heap.size 98 [] from Whole.new_ _ _ []) (Δ _) rfl (Δ _) (by decide) rfl,az w2 _,Δ _,by simp⟩;clear hfull h400 HAn;go_cut [23] (fun v z=>v=Β ρ∧z=w2)
 case first=>
  cases ok with
  |false=>
   have q3:=q2 rfl;clear q2;go_wp2_with fail
   go_meet;exact⟨rfl,rfl⟩
  |true=>
   clear q2;go_wp2_with fail
   go_meet;exact⟨rfl,rfl⟩
 case rest=>
  obtain⟨rfl,hz⟩:=hcut;clear q2;obtain rfl:w2=wc:=hz.symm;go_upto_region 5 with fail
  obtain⟨g1,Ka⟩:=aB w2.heap.size;obtain⟨w3,gw3⟩:=aB (w2.alloc (δ #[] 98));rw[gw3,Ka] at PC;rw[gw3,Ka];clear gw3;have KT:Hid (addR x ρ G=[]++addR x ρ (G.drop 0)):=qh rfl;have Gg1:=qh Ka;clear Ka;go_upto_region 7 with fail
  go_loopw [7,8,9] (fun vo vp vi wr=>∃(j:Nat) (p:Bool) (A2:Option Κ) (n2 c2:Nat) (T:List Gn),j≤n∧n2≤2*j∧vo=γ A2 n2 c2∧vp=Β p∧vi=J (j:Int)∧Hid (Ow w2 g1 98 6 (γ A2 n2 c2) n2 (ah cZ T) wr)∧Hid (addR x ρ G=T++addR x p (G.drop j))) (fun _ _ vi _=>n - (intOf vi).toNat)
  case atStart=>exact⟨0,ρ,_,0,0,[],Jas _,Jas _,rfl,rfl,rfl,PC,KT⟩
  case round=>
   clear PC KT;obtain⟨j,p,A2,n2,c2,T,hj,SG,rfl,rfl,rfl,HO,HN⟩:=hrel;obtain⟨wo,cS⟩:=aB wr;rw[cS] at HO ⊢;clear cS
   by_cases nT:j<n
   ·have ya:(j:Int)<(n:Int):=by omega
    obtain⟨y,hy⟩:∃y,G[j]? =ζ y:=⟨_,θ (by have:=HL.out;omega)⟩
    have kd:G.drop j=y::G.drop (j+1):=by
     rw[Χ (ν.1 hy).1,(ν.1 hy).2]
    have Xc:Hid (addR x ρ G=T++((if p=ρ∧cH x y≤0 then[x] else[])++((if y.1=x.1 then[] else[y])++addR x (p||decide (cH x y≤0)) (G.drop (j+1))))):=qh (by
     have:=HN.out
     rw[kd] at this;exact this)
    obtain⟨bb,off,rfl,aY,a8⟩:=H.out.place bT (by decide) (by omega);have L0:=qh (by have q:=a8 j _ hy 0 _ rfl;simp only[Ν,Jac] at q;exact q);have L1:=qh (by have q:=a8 j _ hy 1 _ rfl;simp only[Ν,Jac] at q;exact q);have L2:=qh (by have q:=a8 j _ hy 2 _ rfl;simp only[Ν,Jac] at q;exact q);have HP:=qh (a8 j _ hy);obtain⟨o,go⟩:=aB (cH x y);have HOr:Hid (∀X,Ζ η 56 #[φ #[J x.1.1,J x.1.2.1,J x.1.2.2],φ #[J y.1.1,J y.1.2.1,J y.1.2.2]] X fun e w'=>e=.returned (J o)∧σ X.heap.size X w'):=qh (fun X=>go▸oU x.1.1 x.1.2.1 x.1.2.2 y.1.1 y.1.2.1 y.1.2.2 X);rw[go] at Xc;have HW:=qh (ag bG.out HO.out.below);have FF:=qh (aZ.out.bl HO.out.below);clear hy kd a8 go HN;go_upto_region 9 with fail
    go_cut [44] (fun v z=>∃b:Bool,v=Β b∧Hid (b=(!p && decide (o≤0)))∧Hid (σ wo.heap.size wo z))
    case first=>
     cases p with
     |true=>
      refine ay (aO) (by kernel_rfl) ?_;refine aa 0 ?_;refine aa 1 ?_;refine aa 2 ?_;refine cp 3 ?_;refine cp 4 ?_;refine cp 5 ?_;refine cp 6 ?_;refine cp 7 ?_;refine cp 8 ?_;refine cp 9 ?_;refine cp 10 ?_;refine cp 11 ?_;refine aa 12 ?_;refine aF (by kernel_rfl) ?_ _;intro w8 cg;go_wp2;go_meet;exact⟨ρ,rfl,qh rfl,qh (ag (aN (Θ _ wo)) cg)⟩
     |false=>
      have s6:=cm (i:=0) FF.out rfl;have sX:=cm (i:=1) FF.out rfl;have Yd:=cm (i:=2) FF.out rfl;have ly0:∀w',Kept aO wo.drew w'→w'.cell? ⟨bb,off+j*6,ε⟩=ζ (J y.1.1):=fun w' h=>h.nil_cell ((HW.out.cell (p:=⟨bb,off+j*6,ε⟩) aY).trans L0.out)
      have ly1:∀w',Kept aO wo.drew w'→w'.cell? ⟨bb,off+j*6+1,ε⟩=ζ (J y.1.2.1):=fun w' h=>h.nil_cell ((HW.out.cell (p:=⟨bb,off+j*6+1,ε⟩) aY).trans L1.out)
      have ly2:∀w',Kept aO wo.drew w'→w'.cell? ⟨bb,off+j*6+2,ε⟩=ζ (J y.1.2.2):=fun w' h=>h.nil_cell ((HW.out.cell (p:=⟨bb,off+j*6+2,ε⟩) aY).trans L2.out)
      refine ay (aO) (by kernel_rfl) ?_;refine aa 0 ?_;refine aa 1 ?_;refine aa 2 ?_;refine aa 3 ?_;refine aa 4 ?_;refine aa 5 ?_;refine aa 6 ?_;refine aa 7 ?_;refine aa 8 ?_;refine aa 9 ?_;refine cV 10 (hy:=by apply bP;rfl;rotate_left;intro w' aC;exact HOr.out w';intro w';go_simp) (h:=?_);refine aa 11 ?_;refine aa 12 ?_;refine aF (by kernel_rfl) ?_ _;intro w8 cg;go_wp2;go_meet;exact⟨decide (o≤0),rfl,qh (by simp),qh (ag (aN (Θ _ wo)) cg)⟩
    case rest=>
     obtain⟨b,rfl,hb,hz⟩:=hcut;have KQ:=qh (HO.out.up hz.out);have eY:=qh (FF.out.bl hz.out)
     have KL:Hid (addR x ρ G=(T++if b=τ then[x] else[])++((if y.1=x.1 then[] else[y])++addR x (p||b) (G.drop (j+1)))):=qh (by
      have e:=hb.out;have h:=Xc.out;cases p with
      |true=>
       rw[e,h,if_neg (by simp)];simp
      |false=>
       by_cases ho:o≤0
       ·rw[if_pos ⟨rfl,ho⟩] at h;rw[e,h,decide_eq_true ho];simp
       ·rw[if_neg (fun q=>ho q.2)] at h;rw[e,h,decide_eq_false ho];simp)
     clear hz hb Xc HO FF HOr HW;go_upto_if 44 with fail
     go_cut [7,8] (fun vo vp z=>∃(A3:Option Κ) (n3 c3:Nat) (T3:List Gn),vo=γ A3 n3 c3∧vp=Β (p||b)∧n3≤n2+1∧Hid (Ow w2 g1 98 6 (γ A3 n3 c3) n3 (ah cZ T3) z)∧Hid (addR x ρ G=T3++((if y.1=x.1 then[] else[y])++addR x (p||b) (G.drop (j+1)))))
     case first=>
      cases b with
      |false=>
       have VN:=KL;go_wp2_with fail
       go_meet;exact⟨A2,n2,c2,T,rfl,by simp,by omega,KQ,qh (by have:=VN.out;simpa using this)⟩
      |true=>
       obtain⟨A3,c3,W3,bV,Xf⟩:=pushG KQ.out x (by omega);have Ck:=qh Xf;clear Xf;go_upto_region 10 with fail
       refine Jam ?_;refine a7 (v:=?_) (ζ 45) rfl (by rfl) ?_ ?_;rotate_left
       ·go_simp;(try with_reducible rfl)
       simp only[ξ,aw,ar,aq];refine eJ (ζ 46) rfl (by rfl) 98 (.tmp 3) rfl b0 rfl 98 (cZ x) _ eY.out Tryz.underlying98 rfl (by kernel_rfl) ?_;simp only[ξ,aw,ar,aq];refine gS (ζ 47) rfl (by rfl) 26 98 1 #[(0,.tmp 46)] (by rfl) Tryz.underlying26 (cZ x).toArray (by kernel_rfl) ?_;simp only[ξ,aw,ar,aq];refine pC (ζ 48) rfl (by rfl) (dt (by rfl) (by rfl) (by rfl) bV) ?_;simp only[ξ,aw,ar,aq];clear bV;have VN:=KL;go_wp2_with fail
       go_meet;exact⟨A3,n2+1,c3,T++[x],rfl,by simp,by omega,Ck,qh (by have:=VN.out;simpa using this)⟩
     case rest=>
      obtain⟨A3,n3,c3,T3,rfl,rfl,hn3,BE,HN5⟩:=hcut;obtain⟨wo,cS⟩:=aB wc;rw[cS] at BE ⊢;clear cS KL KQ eY;have HW:=qh (ag bG.out BE.out.below);have FF:=qh (aZ.out.bl BE.out.below);obtain⟨p2,gp2⟩:=aB ((p||b));rw[gp2] at HN5 ⊢;clear gp2;have hq:∀W,(binOp .neq 32 (φ #[J y.1.1,J y.1.2.1,J y.1.2.2]) (φ #[J x.1.1,J x.1.2.1,J x.1.2.2])).run η W=.ok (Β (!decide (y.1=x.1))) W:=fun W=>nz y.1 x.1 W
      obtain⟨e,ge⟩:=aB (decide (y.1=x.1));rw[ge] at hq;have HE:=qh ge;clear ge;have s6:=cm (i:=0) FF.out rfl;have sX:=cm (i:=1) FF.out rfl;have Yd:=cm (i:=2) FF.out rfl;have ly0:∀w',Kept aO wo.drew w'→w'.cell? ⟨bb,off+j*6,ε⟩=ζ (J y.1.1):=fun w' h=>h.nil_cell ((HW.out.cell (p:=⟨bb,off+j*6,ε⟩) aY).trans L0.out)
      have ly1:∀w',Kept aO wo.drew w'→w'.cell? ⟨bb,off+j*6+1,ε⟩=ζ (J y.1.2.1):=fun w' h=>h.nil_cell ((HW.out.cell (p:=⟨bb,off+j*6+1,ε⟩) aY).trans L1.out)
      have ly2:∀w',Kept aO wo.drew w'→w'.cell? ⟨bb,off+j*6+2,ε⟩=ζ (J y.1.2.2):=fun w' h=>h.nil_cell ((HW.out.cell (p:=⟨bb,off+j*6+2,ε⟩) aY).trans L2.out)
      go_upto_region 12 with fail
      refine ay (aO) (by kernel_rfl) ?_;refine aa 0 ?_;refine aa 1 ?_;refine aa 2 ?_;refine aa 3 ?_;refine aa 4 ?_;refine aa 5 ?_;refine aa 6 ?_;refine cV 7 (hy:=dD (by rfl) (fun w' aC=>dU .neq 32 (.tmp 53) (.tmp 55) 32 rfl rfl rfl (by kernel_rfl) (hq w'))) (h:=?_);refine aF (by kernel_rfl) ?_ _;intro w8 cg;have XW:=qh ((BE.out.up ((Θ wo.heap.size wo).drew)).up cg);have HW8:=qh (ag bG.out XW.out.below);clear cg BE HW FF s6 sX Yd ly0 ly1 ly2 hq;cases e with
      |true=>
       have HN8:Hid (addR x ρ G=T3++addR x p2 (G.drop (j+1))):=qh (by
        have h:=HN5.out;rw[if_pos (of_decide_eq_true HE.out)] at h;exact h)
       clear HN5 HE;go_wp2;go_roundw
       case rel=>exact⟨j+1,p2,A3,n3,c3,T3,by omega,by omega,rfl,rfl,by go_num,XW,HN8⟩
       case measure=>simp[intOf];omega
      |false=>
       have HN8:Hid (addR x ρ G=(T3++[y])++addR x p2 (G.drop (j+1))):=qh (by
        have h:=HN5.out;rw[if_neg (of_decide_eq_false HE.out)] at h;rw[h];simp)
       clear HN5 HE;go_upto_region 13 with fail
       obtain⟨A4,c4,W4,bV,YL⟩:=pushG XW.out y (by omega);have KQ:=qh YL;clear YL XW;refine Jam ?_;refine a7 (v:=?_) (ζ 57) rfl (by rfl) ?_ ?_;rotate_left
       ·go_simp;(try with_reducible rfl)
       simp only[ξ,aw,ar,aq];refine a7 (v:=?_) (ζ 58) rfl (by rfl) ?_ ?_;rotate_left
       ·go_simp;(try with_reducible rfl)
       simp only[ξ,aw,ar,aq];refine a7 (v:=?_) (ζ 59) rfl (by rfl) ?_ ?_;rotate_left
       ·go_simp;(try with_reducible rfl)
       simp only[ξ,aw,ar,aq];refine a7 (v:=?_) (ζ 60) rfl (by rfl) ?_ ?_;rotate_left
       ·go_simp;(try with_reducible rfl)
       simp only[ξ,aw,ar,aq];refine wR (ζ 61) rfl (by rfl) 98 (.tmp 60) rfl ⟨bb,off+j*6,ε⟩ rfl (cZ y) _ (fun i u hu=>(HW8.out.cell (by rw[en];exact aY)).trans (HP.out i u hu)) Tryz.underlying98 rfl (by kernel_rfl) ?_;simp only[ξ,aw,ar,aq];refine gS (ζ 62) rfl (by rfl) 26 98 1 #[(0,.tmp 61)] (by rfl) Tryz.underlying26 (cZ y).toArray (by kernel_rfl) ?_;simp only[ξ,aw,ar,aq];refine pC (ζ 63) rfl (by rfl) (dt (by rfl) (by rfl) (by rfl) bV) ?_;simp only[ξ,aw,ar,aq];clear bV HP;go_wp2;go_roundw
       case rel=>exact⟨j+1,p2,A4,n3+1,c4,T3++[y],by omega,by omega,rfl,rfl,by go_num,KQ,HN8⟩
       case measure=>simp[intOf];omega
   ·obtain rfl:n=j:=by omega
    have hN:=HN.out;rw[Jak (by have:=HL.out;omega)] at hN;have xK:=qh (aZ.out.bl HO.out.below);cases p with
    |true=>
     have HT:Hid (dP G x=T):=qh (by rw[HA.out,hN];show T++(if τ=τ then[] else[x])=T;simp);clear hN HN;go_wp2;go_ret;exact⟨A2,n2,c2,rfl,by rw[HT.out];exact aK HO.out.own,ag bG.out HO.out.below⟩
    |false=>
     have HT:Hid (dP G x=T++[x]):=qh (by rw[HA.out,hN];rfl);obtain⟨A3,c3,W3,bV,Xf⟩:=pushG HO.out x (by omega);have Ck:=qh Xf;clear Xf hN HN;go_upto_region 15 with fail
     refine Jam ?_;refine a7 (v:=?_) (ζ 66) rfl (by rfl) ?_ ?_;rotate_left
     ·go_simp;(try with_reducible rfl)
     simp only[ξ,aw,ar,aq];refine eJ (ζ 67) rfl (by rfl) 98 (.tmp 3) rfl b0 rfl 98 (cZ x) _ xK.out Tryz.underlying98 rfl (by kernel_rfl) ?_;simp only[ξ,aw,ar,aq];refine gS (ζ 68) rfl (by rfl) 26 98 1 #[(0,.tmp 67)] (by rfl) Tryz.underlying26 (cZ x).toArray (by kernel_rfl) ?_;simp only[ξ,aw,ar,aq];refine pC (ζ 69) rfl (by rfl) (dt (by rfl) (by rfl) (by rfl) bV) ?_;simp only[ξ,aw,ar,aq];clear bV;go_wp2;go_ret;exact⟨A3,n2+1,c3,rfl,by rw[HT.out];exact aK Ck.out.own,ag bG.out Ck.out.below⟩
end Go.Proofs.YtpdpbfmiahjiiaaGreat
