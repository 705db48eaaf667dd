/- Several texts in one. -/
import Derived.Test.YtpdpbfmiahjiiaaGreatPpAB
import Derived.Test.YtpdpbfmiahjiiaaGreatPpAC
import Derived.Test.YtpdpbfmiahjiiaaGreatPpAG
import Derived.Test.YtpdpbfmiahjiiaaGreatPpAO
import Derived.Test.YtpdpbfmiahjiiaaGreatPpAR
set_option linter.unusedSectionVars false
set_option linter.unusedSimpArgs false
set_option linter.unusedVariables false
set_option maxRecDepth 100000
set_option maxHeartbeats 16000000
namespace Go.Proofs.YtpdpbfmiahjiiaaGreat
open Go.RowKit
open _root_.Go.Value renaming slice→γ,pointer→υ,agg→φ,bool→Β,tuple→Ξ
open _root_.Go.Obj renaming cells→δ
open _root_.Option renaming none→ε,some→ζ
open _root_.Go.Proofs.Tryz renaming prog→η
open _root_.List renaming getElem?_eq_getElem→θ,getElem?_eq_some_iff→ν,mem_of_getElem?→ω,drop_eq_getElem_cons→Χ,drop_of_length_le→Jak,mem_singleton→Jao
open _root_.Go.Act renaming put→ξ
open _root_.Go renaming World→ο,Calls→Ζ,Addr→Κ,wp_region_lit→Jam
open _root_.Bool renaming false→ρ,true→τ
open _root_.Go.RowKit renaming Below→σ
open _root_.Nat renaming le_refl→Δ,le_trans→Λ,add_zero→Jac,zero_le→Jas
open _root_.Go.RowKit.Below renaming refl→Θ
open _root_.Go.Addr renaming add_lit→Ν
def pG (W:ο) (R:SS × Int) (e:Ending) (w':ο):Prop:=
 σ W.heap.size W w'∧((R.2=0∧∃A n c Vs B m k Es C r rc G,e=.returned (Ξ #[φ #[γ A n c,γ B m k,γ C r rc],J 0])∧yT w' W.heap.size A n c Vs B m k Es C r rc G∧(Vs.map vS,Es,G)=R.1)∨(R.2≠0∧e=.returned (Ξ #[φ #[γ ε 0 0,γ ε 0 0,γ ε 0 0],J R.2])))
theorem pF {P:Program} {fn:Func} {R:Ending→ο→Prop} {a:Act} {w:ο} {p q:Tmp} {t:TypeId} (h:fn.results=#[.cell p t,.tmp q]) (g:Nat) {t':TypeId} {cs:List Value} {d:TypeDesc}
 (hp:a.tmps.getD p undef=υ (ζ ⟨g,0,ε⟩)) (hW:Whole w g t' cs) (hu:P.underlying t=ζ d) (hd:d.isRow=τ) (hi:(P.info? t).map (·.size)=ζ cs.length)
 (v:Value) (hv:a.tmps.getD q undef=v) (RD:a.defers=[]) (hR:R (.returned (Ξ #[φ cs.toArray,v])) w):bodyPost P fn R .ret a w:=by
 refine bodyPost_ret (v:=Ξ #[φ cs.toArray,v]) ?_ RD hR
 have hl:=run_loadVar_mid (P:=P) w g 0 t cs d (fun j v hv=>by
  have:=hW.cell hv
  simpa using this) hu hd hi
 rw[Array.getD_eq_getD_getElem?] at hp hv;simp[results,h,hp,hv,asAddr,Sem.run_bind,Result.andThen,hl]
theorem zw {S0:SS} {L:List cZ} {S:SS} {j:Nat} {o:cZ} (h:iL S0 L=iL S (L.drop j)) (ho:L[j]? =ζ o) (hk:(cF S o).2=0):iL S0 L=iL (cF S o).1 (L.drop (j+1)):=by
 have hj:=(ν.1 ho).1;have e:L.drop j=o::L.drop (j+1):=by rw[Χ hj,(ν.1 ho).2]
 rw[h,e]
 show(if (cF S o).2=0 then _ else _)=_
 rw[if_pos hk]
theorem zt {S0:SS} {L:List cZ} {S:SS} {j:Nat} {o:cZ} (h:iL S0 L=iL S (L.drop j)) (ho:L[j]? =ζ o) (hk:¬(cF S o).2=0):iL S0 L=(cp,(cF S o).2):=by
 have hj:=(ν.1 ho).1;have e:L.drop j=o::L.drop (j+1):=by rw[Χ hj,(ν.1 ho).2]
 rw[h,e]
 show(if (cF S o).2=0 then _ else _)=_
 rw[if_neg hk]
theorem dK.so {w W:ο} {lo g:Nat} {A:Option Κ} {n c:Nat} {Vs:List VC} {B:Option Κ} {m k:Nat} {Es:List EC} {C:Option Κ} {r rc:Nat} {G:List Gn} (h:dK w lo g A n c Vs B m k Es C r rc G W):yT W w.heap.size A n c Vs B m k Es C r rc G:=
 ⟨fj h.v h.lo_,fj h.e h.lo_,h.rg,fj h.gn h.lo_⟩
theorem yT.cellT {W:ο} {lo g:Nat} {A:Option Κ} {n c:Nat} {Vs:List VC} {B:Option Κ} {m k:Nat} {Es:List EC} {C:Option Κ} {r rc:Nat} {G:List Gn} {cs:List Value} (h:yT W lo A n c Vs B m k Es C r rc G) (hw:Whole W g 28 cs) (i:Nat) (u:Value):yT (W.setCell ⟨g,i,ε⟩ u) lo A n c Vs B m k Es C r rc G:=
 ⟨aM h.v (ch h.v hw (by decide)) _,aM h.e (ch h.e hw (by decide)) _,fun x hx=>(h.rg x hx).cell hw (by decide) _ _,aM h.gn (ch h.gn hw (by decide)) _⟩
def Sc (o:cZ):Prop:=ed o=0→∀{w W:ο} {lo g:Nat} {A:Option Κ} {n c:Nat} {Vs:List VC} {B:Option Κ} {m k:Nat} {Es:List EC} {C:Option Κ} {r rc:Nat} {G:List Gn},dK w lo g A n c Vs B m k Es C r rc G W→fA (Vs.map vS,Es,G)→Ζ η 68 #[υ (ζ ⟨g,0,ε⟩),φ (aa o).toArray] W (fX w W lo g (cF (Vs.map vS,Es,G) o))
section
variable {W:ο} {A:Option Κ} {n c:Nat} {Vs:List VC} {B:Option Κ} {m k:Nat} {Es:List EC} {C:Option Κ} {r rc:Nat} {G:List Gn}
theorem NH (h:aR W A n c Vs B m k Es) (hg:aX W W.heap.size 6 C r rc (aj cB G)) (hS:fA (Vs.map vS,Es,G)) (PA:Option Κ) (pn pc:Nat) (L:List cZ) (hL:aX W W.heap.size 20 PA pn pc (aj aa L)) (xd:pn≤1000) (ho:∀o∈L,ed o=0) (Sy:∀o∈L,Sc o):
 Ζ η 44 #[φ #[γ A n c,γ B m k,γ C r rc],γ PA pn pc] W (pG W (iL (Vs.map vS,Es,G) L)):=by
 have mZ:Vs.length=n:=h.v.rlen aQ (by decide);have sS:Es.length=m:=h.e.rlen bF (by decide);have KO:G.length=r:=hg.rlen cw (by decide);have hn:n≤1000:=by have:=hS.v24;rw[List.length_map] at this;omega
 have hm:m≤1000:=by have h1:Es.length≤40:=hS.e40;omega
 have hr:r≤1000:=by have h1:G.length≤400:=hS.g400;omega
 have pd:∀x∈Vs,x.2.1.2.1≤1000000:=fun x hx=>by
  have h1:=hS.short (vS x) (List.mem_map.2 ⟨x,hx,rfl⟩);have h2:x.2.1.2.2.2.length=x.2.1.2.1:=(h.r x hx).2.dlen;have h3:x.2.1.2.2.2.length≤80:=h1;omega
 have tV:L.length=pn:=hL.rlen dt (by decide);have kx:σ W.heap.size W ((W.alloc (δ #[γ A n c,γ B m k,γ C r rc] 28)).alloc (δ #[γ ε 0 0,γ ε 0 0,γ ε 0 0] 28)):=aE (ax W _) _;have HC:Hid (∀X,σ W.heap.size W X→Ζ η 55 #[φ #[γ A n c,γ B m k,γ C r rc]] X fun e w'=>∃A' c' B' k' C' rE Ws,e=.returned (φ #[γ A' n c',γ B' m k',γ C' r rE])∧yT w' X.heap.size A' n c' Ws B' m k' Es C' r rE G∧Ws.map vS=Vs.map vS∧σ X.heap.size X w'):=qh (fun X hX=>Db (h.below hX) (hg.bl hX) hn hm hr pd);have kJ:=qh hL;have xj:=qh hS;have HMo:=qh ho;have HDk:=qh Sy;have VE:=qh tV;have a8:=qh kx;have aN:Hid (Whole ((W.alloc (δ #[γ A n c,γ B m k,γ C r rc] 28)).alloc (δ #[γ ε 0 0,γ ε 0 0,γ ε 0 0] 28)) W.heap.size 28 [γ A n c,γ B m k,γ C r rc]):=qh ((Whole.new_ _ _ [_,_,_]).al _);have mU:Hid (Whole ((W.alloc (δ #[γ A n c,γ B m k,γ C r rc] 28)).alloc (δ #[γ ε 0 0,γ ε 0 0,γ ε 0 0] 28)) (W.heap.size+1) 28 [γ ε 0 0,γ ε 0 0,γ ε 0 0]):=qh (Whole.new2 (by simp));clear h hg hS hL ho Sy tV kx pd mZ sS KO;go_enter Tryz.func44,Tryz.ntmps44;go_upto_region 1 with fail
 obtain⟨W0,bP⟩:=ay (((W.alloc (δ #[γ A n c,γ B m k,γ C r rc] 28)).alloc (δ #[γ ε 0 0,γ ε 0 0,γ ε 0 0] 28)));obtain⟨b1,cX⟩:=ay (W.heap.size+1);obtain⟨b0,bK⟩:=ay W.heap.size;have L1:Hid (W.heap.size≤b1):=qh (by omega);rw[bP] at a8 aN mU ⊢;rw[cX] at mU ⊢;rw[bK] at aN ⊢;clear bP bK cX;have x0:=aN.out.cell (i:=0) rfl;have x1:=aN.out.cell (i:=1) rfl;have x2:=aN.out.cell (i:=2) rfl
 go_upto_region 2 with (first
  |(go_at_call 55
    refine(HC.out _ a8.out).mono ?_
    rintro e w5 ⟨A5,c5,B5,k5,C5,V6,Ws,rfl,WA,Mo,fB⟩;have VO:=qh WA;have Ep:=qh Mo;have gI:=qh fB;have VH:=qh (mU.out.bl fB);clear WA Mo fB x0 x1 x2 aN mU HC))
 have HT:Hid (dK W W0.heap.size w5.heap.size A5 n c5 Ws B5 m k5 Es C5 r V6 G (w5.alloc (δ #[γ A5 n c5,γ B5 m k5,γ C5 r V6] 28))):=qh (by
  have hu:=VO.out.up (ax w5 (δ #[γ A5 n c5,γ B5 m k5,γ C5 r V6] 28));exact⟨Whole.new_ _ _ [_,_,_],hu.v,hu.e,hu.rg,hu.gn,aE (af a8.out gI.out) _,a8.out.size,Λ gI.out.size (ax w5 _).size,Λ a8.out.size gI.out.size⟩)
 have OU:=qh (VH.out.al (δ #[γ A5 n c5,γ B5 m k5,γ C5 r V6] 28));have Ng:Hid (b1≠w5.heap.size):=qh (by have:=VH.out.lt;omega);obtain⟨w0,Qi⟩:=ay (w5.alloc (δ #[γ A5 n c5,γ B5 m k5,γ C5 r V6] 28));obtain⟨g,gg⟩:=ay w5.heap.size;obtain⟨lo,Ah⟩:=ay W0.heap.size;rw[Qi] at HT OU ⊢;rw[gg] at HT Ng ⊢;rw[Ah] at HT;have HO:Hid (fA (Ws.map vS,Es,G)):=qh (by rw[Ep.out];exact xj.out);have HA:Hid (iL (Vs.map vS,Es,G) L=iL (Ws.map vS,Es,G) (L.drop 0)):=qh (by rw[Ep.out];rfl);clear Qi gg Ah VO gI VH a8 Ep;go_wp2;go_loopw [14] (fun i wr=>∃(j:Nat) (A:Option Κ) (n c:Nat) (Vq:List VC) (B:Option Κ) (m k:Nat) (R4:List EC) (C:Option Κ) (r rc:Nat) (Gq:List Gn),j≤pn∧i=J (j:Int)∧Hid (dK W lo g A n c Vq B m k R4 C r rc Gq wr)∧Hid (fA (Vq.map vS,R4,Gq))∧Hid (iL (Vs.map vS,Es,G) L=iL (Vq.map vS,R4,Gq) (L.drop j))∧Hid (aY g w0 wr)) (fun i _=>pn - (intOf i).toNat)
 case atStart=>exact⟨0,A5,n,c5,Ws,B5,m,k5,Es,C5,r,V6,G,Jas _,rfl,HT,HO,HA,qh (aY.refl g _)⟩
 case round=>
  clear HT HO HA;obtain⟨j,A,n,c,Vq,B,m,k,R4,C,r,rc,Gq,hj,rfl,HT,HO,HA,HK⟩:=hrel;have MQ:=qh (HK.out.w _ _ _ OU.out Ng.out (by decide) (by decide) (by decide));have Ll:=VE.out
  by_cases fh:j<pn
  ·have yw:L[j]? =ζ (L[j]'(by omega)):=θ _;obtain⟨o,go⟩:=ay (L[j]'(by omega));rw[go] at yw;have HKo:=qh yw;have HMm:Hid (ed o=0):=qh (HMo.out o (ω yw));have HDm:Hid (Sc o):=qh (HDk.out o (ω yw));obtain⟨b,off,rfl,bD,bM⟩:=(kJ.out.bl HT.out.below).place dt (by decide) (by omega);have HP:=qh (bM j o yw);clear go yw bM bD Ll;obtain⟨⟨T,x⟩,gk⟩:∃z,cF (Vq.map vS,R4,Gq) o=z:=⟨_,rfl⟩
   have HD:Hid (∀X,dK W lo g A n c Vq B m k R4 C r rc Gq X→Ζ η 68 #[υ (ζ ⟨g,0,ε⟩),φ (aa o).toArray] X (fX W X lo g (T,x))):=qh (fun X hX=>gk▸HDm.out HMm.out hX HO.out);have ZZ:=qh gk;clear gk;go_upto_region 4 with fail
   refine Jam ?_;refine ah (v:=?_) (ζ 16) rfl (by rfl) ?_ ?_;rotate_left
   ·go_simp;(try with_reducible rfl)
   simp only[ξ,aq,ak,ao];refine oH (ζ 17) rfl (by rfl) 36 (.tmp 16) rfl ⟨b,off+j*20,ε⟩ rfl (aa o) _ HP.out Tryz.underlying36 rfl (by kernel_rfl) ?_;simp only[ξ,aq,ak,ao];refine M4 8 rfl rfl rfl 36 (.tmp 17) rfl rfl #[J 0,J 0,J 0,J 0,J 0,J 0,J 0,J 0,J 0,J 0,J 0,J 0,J 0,J 0,J 0,J 0,J 0,Β ρ,.string ⟨#[]⟩,J 0] ?_ (aa o).toArray (by simp) rfl (by kernel_rfl) rfl (uO o) ?_
   ·go_simp;(try with_reducible rfl)
   simp only[ξ,aq,ak,ao];have HT2:=qh (HT.out.al (δ (aa o).toArray 36));have vE:=qh (HK.out.trans (aY.of_below (ax wr (δ (aa o).toArray 36))));have HN:Hid (Whole (wr.alloc (δ (aa o).toArray 36)) wr.heap.size 36 (aa o)):=qh (Whole.new_ _ _ _);obtain⟨W2,eN⟩:=ay (wr.alloc (δ (aa o).toArray 36));obtain⟨g2,qS⟩:=ay wr.heap.size;rw[eN] at HT2 vE HN ⊢;rw[qS] at HN ⊢;clear eN qS HT HK MQ HP;go_upto_region 5 with fail
   refine Jam ?_;refine bw (ζ 18) rfl (by rfl) 36 (.tmp 8) rfl g2 rfl 36 (aa o) _ HN.out Tryz.underlying36 rfl (by kernel_rfl) ?_;simp only[ξ,aq,ak,ao];go_wp2_with fail
   refine(HD.out _ HT2.out).mono ?_
   rintro e w3 ⟨rfl,bC,QM,Ss⟩;have cI:=qh bC;have OF:=qh (vE.out.trans QM);clear bC QM HT2 vE HN HD
   by_cases hx:x=0
   ·subst hx;obtain⟨A',n',c',V',B',m',k',E',C',r',rE,G',DJ,Lp⟩:=Ss rfl;have HT3:=qh DJ
    have kB:Hid (fA (V'.map vS,E',G')):=qh (by
     have:=HO.out.kind HMm.out
     rw[ZZ.out] at this;rw[Lp];exact this)
    have HA3:Hid (iL (Vs.map vS,Es,G) L=iL (V'.map vS,E',G') (L.drop (j+1))):=qh (by
     have:=zw HA.out HKo.out (by rw[ZZ.out])
     rw[ZZ.out] at this;rw[Lp];exact this)
    clear DJ Lp Ss;go_wp2;go_roundw
    case rel=>exact⟨j+1,_,_,_,_,_,_,_,_,_,_,_,_,by omega,by go_num,HT3,kB,HA3,OF⟩
    case measure=>simp[intOf];omega
   ·have q:(x==0)=ρ:=by simpa using hx
    have q':(x !=0)=τ:=by simpa using hx
    have oa:Hid (iL (Vs.map vS,Es,G) L=(cp,x)):=qh (by
     have:=zt HA.out HKo.out (by rw[ZZ.out];exact hx)
     rw[ZZ.out] at this;exact this)
    have tX:=qh hx;have nF:=qh (OF.out.w _ _ _ OU.out Ng.out (by decide) (by decide) (by decide));have z0:=nF.out.cell (i:=0) rfl;have z1:=nF.out.cell (i:=1) rfl;have z2:=nF.out.cell (i:=2) rfl;have y0_:=nF.out.free 0;have y1_:=nF.out.free 1;have y2_:=nF.out.free 2;clear hx Ss OF;go_wp2;exact pF rfl b1 rfl (((nF.out.set_ 0 (γ ε 0 0)).set_ 1 (γ ε 0 0)).set_ 2 (γ ε 0 0)) Tryz.underlying28 rfl (by kernel_rfl) _ rfl rfl (by rw[oa.out];exact⟨(((cI.out.setCell (p:=⟨b1,0,ε⟩) L1.out (γ ε 0 0)).setCell (p:=⟨b1,1,ε⟩) L1.out (γ ε 0 0)).setCell (p:=⟨b1,2,ε⟩) L1.out (γ ε 0 0)),.inr ⟨tX.out,rfl⟩⟩)
  ·obtain rfl:j=pn:=by omega
   have oa:Hid (iL (Vs.map vS,Es,G) L=((Vq.map vS,R4,Gq),0)):=qh (by
    have:=HA.out
    rw[Jak (by omega)] at this;exact this)
   have s0:=HT.out.s.cell (i:=0) rfl;have s1:=HT.out.s.cell (i:=1) rfl;have s2:=HT.out.s.cell (i:=2) rfl;have ng:g≠b1:=fun e=>Ng.out e.symm
   have z0:=MQ.out.cell (i:=0) rfl;have z1:=MQ.out.cell (i:=1) rfl;have z2:=MQ.out.cell (i:=2) rfl;have y0_:=MQ.out.free 0;have y1_:=MQ.out.free 1;have y2_:=MQ.out.free 2;have HSo:=qh (((HT.out.so.cellT MQ.out 0 (γ A n c)).cellT (MQ.out.set_ 0 (γ A n c)) 1 (γ B m k)).cellT ((MQ.out.set_ 0 (γ A n c)).set_ 1 (γ B m k)) 2 (γ C r rc));clear Ll;go_wp2;exact pF rfl b1 rfl (((MQ.out.set_ 0 (γ A n c)).set_ 1 (γ B m k)).set_ 2 (γ C r rc)) Tryz.underlying28 rfl (by kernel_rfl) _ rfl rfl (by rw[oa.out];exact⟨(((HT.out.below.setCell (p:=⟨b1,0,ε⟩) L1.out (γ A n c)).setCell (p:=⟨b1,1,ε⟩) L1.out (γ B m k)).setCell (p:=⟨b1,2,ε⟩) L1.out (γ C r rc)),.inl ⟨rfl,A,n,c,Vq,B,m,k,R4,C,r,rc,Gq,rfl,HSo.out,rfl⟩⟩)
end
theorem Oe {S:SS} {o:cZ} (h:¬(cF S o).2=0):(cF S o).1=cp:=by
 revert h;unfold cF jG jD kr wm cx cV setS
 repeat' (first|split|(intro h;first|rfl|exact absurd rfl h)|dsimp only)
theorem Rv (S:SS) (o:cZ):iL S [o]=cF S o:=by
 show(if (cF S o).2=0 then((cF S o).1,0) else(cp,(cF S o).2))=_
 by_cases h:(cF S o).2=0
 ·rw[if_pos h];exact Prod.ext rfl h.symm
 ·rw[if_neg h];exact Prod.ext (Oe h).symm rfl
theorem yT.lo_ {W:ο} {lo lo':Nat} {A:Option Κ} {n c:Nat} {Vs:List VC} {B:Option Κ} {m k:Nat} {Es:List EC} {C:Option Κ} {r rc:Nat} {G:List Gn} (h:yT W lo A n c Vs B m k Es C r rc G) (hl:lo'≤lo):yT W lo' A n c Vs B m k Es C r rc G:=
 ⟨ta h.v hl,ta h.e hl,h.rg,ta h.gn hl⟩
theorem yT.dg {W:ο} {lo:Nat} {A:Option Κ} {n c:Nat} {Vs:List VC} {B:Option Κ} {m k:Nat} {Es:List EC} {C:Option Κ} {r rc:Nat} {G:List Gn} (h:yT W lo A n c Vs B m k Es C r rc G):aR W A n c Vs B m k Es:=
 ⟨aJ h.v,aJ h.e,fun x hx=>⟨(h.rg x hx).1,(h.rg x hx).2.1⟩⟩
theorem zM:∀{L:List cZ},fT L=0→∀o∈L,ed o=0
 |[],_,_,ho=>by cases ho
 |u::L,h,o,ho=>by
  have h1:(if ed u=0 then fT L else ed u)=0:=h
  by_cases q:ed u=0
  ·rw[if_pos q] at h1;rcases List.mem_cons.1 ho with rfl|ho
   ·exact q
   ·exact zM h1 o ho
  ·rw[if_neg q] at h1;exact absurd h1 q
theorem CP {L:List cZ} (h:jx L=0):∀o∈L,ed o=0:=by
 unfold jx at h;split at h
 ·exact absurd h (by decide)
 ·exact zM h
theorem xJ (o:cZ):aj aa [o]=aa o:=by simp[aj]
section
variable {W:ο} {A:Option Κ} {n c:Nat} {Vs:List VC} {B:Option Κ} {m k:Nat} {Es:List EC} {C:Option Κ} {r rc:Nat} {G:List Gn}
theorem JY (h:aR W A n c Vs B m k Es) (hg:aX W W.heap.size 6 C r rc (aj cB G)) (hS:fA (Vs.map vS,Es,G)) (PA:Option Κ) (pn pc:Nat) (L:List cZ) (hL:aX W W.heap.size 20 PA pn pc (aj aa L)) (xd:pn≤maxLen) (Sy:∀o∈L,Sc o):
 Ζ η 18 #[φ #[γ A n c,γ B m k,γ C r rc],φ #[γ PA pn pc]] W (pG W (iW (Vs.map vS,Es,G) L)):=by
 have tV:L.length=pn:=hL.rlen dt (by decide);have HM:Hid (∀X,σ W.heap.size W X→Ζ η 54 #[φ #[γ PA pn pc]] X fun e w'=>e=.returned (J (jx L))∧σ X.heap.size X w'):=qh (fun X hX=>Cz PA pn pc L X (hL.bl hX) xd)
 have HD:Hid (jx L=0→∀X,σ W.heap.size W X→Ζ η 44 #[φ #[γ A n c,γ B m k,γ C r rc],γ PA pn pc] X (pG X (iL (Vs.map vS,Es,G) L))):=qh (fun h0 X hX=>by
  have h6:pn≤6:=by
   by_cases q:L.length<1∨6<L.length
   ·unfold jx at h0;rw[if_pos q] at h0;exact absurd h0 (by decide)
   ·omega
  exact NH (h.below hX) (hg.bl hX) hS PA pn pc L (hL.bl hX) (by omega) (CP h0) Sy)
 clear h hg hS hL xd Sy tV;go_enter Tryz.func18,Tryz.ntmps18;go_upto_region 1 with fail
 obtain⟨W0,b0,b1,b2,bP,bK,cX,dN,aN,aI,aV,a8,-,-,kQ,-,jK,-,bz,mj,oK,km⟩:=jN W 28 [γ A n c,γ B m k,γ C r rc] 49 [γ PA pn pc] 28 [γ ε 0 0,γ ε 0 0,γ ε 0 0];rw[bP,dN,cX,bK];clear bP bK cX dN;have x1:=aI.out.cell (i:=0) rfl;obtain⟨x,gx⟩:=ay (jx L);rw[gx] at HM HD;have GX:=qh gx;clear gx
 go_upto_region 2 with (first
  |(go_at_call 54
    refine(HM.out _ a8.out).mono ?_
    rintro e w2 ⟨rfl,ar⟩;have bX:=qh (af a8.out ar);have eU:=qh (aN.out.bl ar);have fi:=qh (aI.out.bl ar);have eT:=qh (aV.out.bl ar);clear ar x1 aN aI aV a8 HM))
 by_cases hx:x=0
 ·subst hx;have HR:Hid (iW (Vs.map vS,Es,G) L=iL (Vs.map vS,Es,G) L):=qh (by unfold iW;rw[if_pos GX.out]);have yX:=qh (HD.out rfl _ bX.out);have x0:=eU.out.cell (i:=0) rfl;have x1:=eU.out.cell (i:=1) rfl;have x2:=eU.out.cell (i:=2) rfl;have x3:=fi.out.cell (i:=0) rfl;clear GX HD;go_wp2_with fail
  refine yX.out.mono ?_;clear x0 x1 x2 x3;rintro e w3 ⟨bC,h3⟩;have cI:=qh (af bX.out bC);have nF:=qh (eT.out.bl bC);have z0:=nF.out.cell (i:=0) rfl;have Vk:=nF.out.free 0;have z1:=nF.out.cell (i:=1) rfl;have Um:=nF.out.free 1;have z2:=nF.out.cell (i:=2) rfl;have Tf:=nF.out.free 2;rcases h3 with⟨hx,A',n',c',V',B',m',k',E',C',r',rE,G',rfl,DJ,Lp⟩|⟨hx,rfl⟩
  ·have kz:=qh (DJ.lo_ (lo':=W.heap.size) bX.out.size);have sO:=qh Lp;have dp:=qh hx;clear DJ Lp hx bC;go_wp2;exact pF rfl b2 rfl (((nF.out.set_ 0 (γ A' n' c')).set_ 1 (γ B' m' k')).set_ 2 (γ C' r' rE)) Tryz.underlying28 rfl (by kernel_rfl) _ rfl rfl (by rw[HR.out];exact⟨(((cI.out.setCell (p:=⟨b2,0,ε⟩) bz.out (γ A' n' c')).setCell (p:=⟨b2,1,ε⟩) bz.out (γ B' m' k')).setCell (p:=⟨b2,2,ε⟩) bz.out (γ C' r' rE)),.inl ⟨dp.out,A',n',c',V',B',m',k',E',C',r',rE,G',rfl,(((kz.out.cellT nF.out 0 (γ A' n' c')).cellT (nF.out.set_ 0 (γ A' n' c')) 1 (γ B' m' k')).cellT ((nF.out.set_ 0 (γ A' n' c')).set_ 1 (γ B' m' k')) 2 (γ C' r' rE)),sO.out⟩⟩)
  ·have dp:=qh hx;obtain⟨x,gx⟩:=ay ((iL (Vs.map vS,Es,G) L).2);rw[gx];have GX:=qh gx;clear hx bC gx;go_wp2;exact pF rfl b2 rfl (((nF.out.set_ 0 (γ ε 0 0)).set_ 1 (γ ε 0 0)).set_ 2 (γ ε 0 0)) Tryz.underlying28 rfl (by kernel_rfl) _ rfl rfl (by rw[HR.out];exact⟨(((cI.out.setCell (p:=⟨b2,0,ε⟩) bz.out (γ ε 0 0)).setCell (p:=⟨b2,1,ε⟩) bz.out (γ ε 0 0)).setCell (p:=⟨b2,2,ε⟩) bz.out (γ ε 0 0)),.inr ⟨dp.out,by rw[GX.out];rfl⟩⟩)
 ·have q:(x==0)=ρ:=by simpa using hx
  have q':(x !=0)=τ:=by simpa using hx
  have HR:Hid (iW (Vs.map vS,Es,G) L=(cp,x)):=qh (by unfold iW;rw[GX.out,if_neg hx]);have HX:=qh hx;have z0:=eT.out.cell (i:=0) rfl;have Vk:=eT.out.free 0;have z1:=eT.out.cell (i:=1) rfl;have Um:=eT.out.free 1;have z2:=eT.out.cell (i:=2) rfl;have Tf:=eT.out.free 2;clear hx GX HD;go_wp2;exact pF rfl b2 rfl (((eT.out.set_ 0 (γ ε 0 0)).set_ 1 (γ ε 0 0)).set_ 2 (γ ε 0 0)) Tryz.underlying28 rfl (by kernel_rfl) _ rfl rfl (by rw[HR.out];exact⟨(((bX.out.setCell (p:=⟨b2,0,ε⟩) bz.out (γ ε 0 0)).setCell (p:=⟨b2,1,ε⟩) bz.out (γ ε 0 0)).setCell (p:=⟨b2,2,ε⟩) bz.out (γ ε 0 0)),.inr ⟨HX.out,rfl⟩⟩)
theorem om (h:aR W A n c Vs B m k Es) (hg:aX W W.heap.size 6 C r rc (aj cB G)) (hS:fA (Vs.map vS,Es,G)) (o:cZ) (Sy:Sc o):
 Ζ η 14 #[φ #[γ A n c,γ B m k,γ C r rc],φ (aa o).toArray] W (pG W (jJ (Vs.map vS,Es,G) o)):=by
 have HD:Hid (ed o=0→∀X,σ W.heap.size W X→∀g,Whole X g 36 (aa o)→Ζ η 44 #[φ #[γ A n c,γ B m k,γ C r rc],γ (ζ ⟨g,0,ε⟩) 1 1] X (pG X (cF (Vs.map vS,Es,G) o))):=qh (fun h0 X hX g hw=>by
  rw[←Rv];exact NH (h.below hX) (hg.bl hX) hS _ 1 1 [o] (by rw[xJ];exact aX.of_whole hw rfl) (by decide) (fun u hu=>by obtain rfl:=Jao.1 hu;exact h0) (fun u hu=>by obtain rfl:=Jao.1 hu;exact Sy))
 clear h hg hS Sy;go_enter Tryz.func14,Tryz.ntmps14;go_upto_region 1 with fail
 obtain⟨W0,b0,b1,b2,bP,bK,cX,dN,aN,aI,aV,a8,-,-,kQ,-,jK,-,bz,mj,oK,km⟩:=jN W 28 [γ A n c,γ B m k,γ C r rc] 36 (aa o) 28 [γ ε 0 0,γ ε 0 0,γ ε 0 0];rw[bP,dN,cX,bK];clear bP bK cX dN;obtain⟨x,gx⟩:=ay (ed o);have HM:Hid (∀X,Ζ η 43 #[φ (aa o).toArray] X fun e w'=>e=.returned (J x)∧σ X.heap.size X w'):=qh (fun X=>gx▸zx o X);rw[gx] at HD;have GX:=qh gx;clear gx;refine Jam ?_;refine bw (ζ 7) rfl (by rfl) 36 (.tmp 3) rfl b1 rfl 36 (aa o) _ aI.out Tryz.underlying36 rfl (by kernel_rfl) ?_;simp only[ξ,aq,ak,ao]
 go_upto_region 2 with (first
  |(go_at_call 43
    refine(HM.out _).mono ?_
    rintro e w2 ⟨rfl,ar⟩;have bX:=qh (af a8.out ar);have eU:=qh (aN.out.bl ar);have fi:=qh (aI.out.bl ar);have eT:=qh (aV.out.bl ar);clear ar aN aI aV a8 HM))
 by_cases hx:x=0
 ·subst hx;have HR:Hid (jJ (Vs.map vS,Es,G) o=cF (Vs.map vS,Es,G) o):=qh (by unfold jJ;rw[if_pos GX.out]);clear GX;go_upto_region 4 with fail
  refine Jam ?_;refine bw (ζ 13) rfl (by rfl) 28 (.tmp 2) rfl b0 rfl 28 [γ A n c,γ B m k,γ C r rc] _ eU.out Tryz.underlying28 rfl (by kernel_rfl) ?_;simp only[ξ,aq,ak,ao];refine bw (ζ 14) rfl (by rfl) 36 (.tmp 3) rfl b1 rfl 36 (aa o) _ fi.out Tryz.underlying36 rfl (by kernel_rfl) ?_;simp only[ξ,aq,ak,ao];refine dz (ζ 15) rfl (by rfl) 47 36 1 #[(0,.tmp 14)] (by rfl) Tryz.underlying47 (aa o).toArray (by kernel_rfl) ?_;simp only[ξ,aq,ak,ao];have yX:=qh (HD.out rfl (w2.alloc (δ (aa o).toArray 36)) (aE bX.out _) _ (Whole.new_ _ _ _));have Ez:=qh (eT.out.al (δ (aa o).toArray 36));have TI:=qh (aE bX.out (δ (aa o).toArray 36));obtain⟨w4,MG⟩:=ay (w2.alloc (δ (aa o).toArray 36));rw[MG] at yX Ez TI ⊢;clear MG HD;go_wp2_with fail
  refine yX.out.mono ?_;rintro e w3 ⟨bC,h3⟩;have cI:=qh (af TI.out bC);have nF:=qh (Ez.out.bl bC);have z0:=nF.out.cell (i:=0) rfl;have Vk:=nF.out.free 0;have z1:=nF.out.cell (i:=1) rfl;have Um:=nF.out.free 1;have z2:=nF.out.cell (i:=2) rfl;have Tf:=nF.out.free 2;rcases h3 with⟨hx,A',n',c',V',B',m',k',E',C',r',rE,G',rfl,DJ,Lp⟩|⟨hx,rfl⟩
  ·have kz:=qh (DJ.lo_ (lo':=W.heap.size) TI.out.size);have sO:=qh Lp;have dp:=qh hx;clear DJ Lp hx bC;go_wp2;exact pF rfl b2 rfl (((nF.out.set_ 0 (γ A' n' c')).set_ 1 (γ B' m' k')).set_ 2 (γ C' r' rE)) Tryz.underlying28 rfl (by kernel_rfl) _ rfl rfl (by rw[HR.out];exact⟨(((cI.out.setCell (p:=⟨b2,0,ε⟩) bz.out (γ A' n' c')).setCell (p:=⟨b2,1,ε⟩) bz.out (γ B' m' k')).setCell (p:=⟨b2,2,ε⟩) bz.out (γ C' r' rE)),.inl ⟨dp.out,A',n',c',V',B',m',k',E',C',r',rE,G',rfl,(((kz.out.cellT nF.out 0 (γ A' n' c')).cellT (nF.out.set_ 0 (γ A' n' c')) 1 (γ B' m' k')).cellT ((nF.out.set_ 0 (γ A' n' c')).set_ 1 (γ B' m' k')) 2 (γ C' r' rE)),sO.out⟩⟩)
  ·have dp:=qh hx;obtain⟨x,gx⟩:=ay ((cF (Vs.map vS,Es,G) o).2);rw[gx];have GX:=qh gx;clear hx bC gx;go_wp2;exact pF rfl b2 rfl (((nF.out.set_ 0 (γ ε 0 0)).set_ 1 (γ ε 0 0)).set_ 2 (γ ε 0 0)) Tryz.underlying28 rfl (by kernel_rfl) _ rfl rfl (by rw[HR.out];exact⟨(((cI.out.setCell (p:=⟨b2,0,ε⟩) bz.out (γ ε 0 0)).setCell (p:=⟨b2,1,ε⟩) bz.out (γ ε 0 0)).setCell (p:=⟨b2,2,ε⟩) bz.out (γ ε 0 0)),.inr ⟨dp.out,by rw[GX.out];rfl⟩⟩)
 ·have q:(x==0)=ρ:=by simpa using hx
  have q':(x !=0)=τ:=by simpa using hx
  have HR:Hid (jJ (Vs.map vS,Es,G) o=(cp,x)):=qh (by unfold jJ;rw[GX.out,if_neg hx]);have HX:=qh hx;have z0:=eT.out.cell (i:=0) rfl;have Vk:=eT.out.free 0;have z1:=eT.out.cell (i:=1) rfl;have Um:=eT.out.free 1;have z2:=eT.out.cell (i:=2) rfl;have Tf:=eT.out.free 2;clear hx GX HD;go_wp2;exact pF rfl b2 rfl (((eT.out.set_ 0 (γ ε 0 0)).set_ 1 (γ ε 0 0)).set_ 2 (γ ε 0 0)) Tryz.underlying28 rfl (by kernel_rfl) _ rfl rfl (by rw[HR.out];exact⟨(((bX.out.setCell (p:=⟨b2,0,ε⟩) bz.out (γ ε 0 0)).setCell (p:=⟨b2,1,ε⟩) bz.out (γ ε 0 0)).setCell (p:=⟨b2,2,ε⟩) bz.out (γ ε 0 0)),.inr ⟨HX.out,rfl⟩⟩)
end
section
variable {W:ο} {A:Option Κ} {n c:Nat} {Vs:List VC} {B:Option Κ} {m k:Nat} {Es:List EC} {C:Option Κ} {r rc:Nat} {G:List Gn}
theorem Ed (W:ο):Ζ η 17 #[] W fun e w'=>e=.returned (φ #[γ ε 0 0,γ ε 0 0,γ ε 0 0])∧σ W.heap.size W w':=by
 go_enter Tryz.func17,Tryz.ntmps17;go_wp2;exact bS rfl W.heap.size rfl (Whole.new_ W 28 [γ ε 0 0,γ ε 0 0,γ ε 0 0]) Tryz.underlying28 rfl (by kernel_rfl) rfl ⟨rfl,ax _ _⟩
end
theorem Kt (A:Option Κ) (n c:Nat) (L:List cZ) (W:ο) (h:aX W W.heap.size 20 A n c (aj aa L)) (hn:n≤maxLen):
 Ζ η 19 #[φ #[γ A n c]] W fun e w'=>∃n',e=.returned (φ #[γ A n' c])∧aX w' w'.heap.size 20 A n' c (aj aa (L.take 8))∧n'≤8∧σ W.heap.size W w':=by
 have hl:L.length=n:=h.rlen dt (by decide);have hle:=h.le;have hH:=qh h;clear h;go_enter Tryz.func19,Tryz.ntmps19;go_upto_region 1 with fail
 obtain⟨W0,b0,b1,bP,bK,cX,aN,aI,a8,-,-,kQ,-,jK,mj⟩:=E6 W 49 [γ A n c] 49 [γ ε 0 0];rw[bP,cX,bK];clear bP bK cX;have x0:=aN.out.cell (i:=0) rfl
 by_cases h8:8<n
 ·have q1:(8:Int)<(n:Int):=by omega
  have h8c:8≤c:=by omega
  have HR:Hid (aX W W.heap.size 20 A 8 c (aj aa (L.take 8))):=qh (by
   have:=hH.out.take_ 8 (by omega)
   rwa [←jj aa dt] at this)
  clear hH hl hle;go_upto_region 2 with fail
  refine Jam ?_;refine ah (v:=?_) (ζ 7) rfl (by rfl) ?_ ?_;rotate_left
  ·go_simp;(try with_reducible rfl)
  simp only[ξ,aq,ak,ao];refine ah (v:=?_) (ζ 8) rfl (by rfl) ?_ ?_;rotate_left
  ·go_simp;(try with_reducible rfl)
  simp only[ξ,aq,ak,ao];refine ah (ζ 9) rfl (by rfl) (vM 47 36 (.tmp 8) (.const (J 8)) rfl Tryz.underlying47 (s:=20) (by kernel_rfl) rfl (k:=8) rfl h8c) ?_;simp only[ξ,aq,ak,ao];have z0:=aI.out.cell (i:=0) rfl;have y0:=aI.out.free 0;go_wp2;have hb:=a8.out.setCell (p:=⟨b1,0,ε⟩) jK.out (γ A 8 c);exact bS rfl b1 rfl (aI.out.set_ 0 (γ A 8 c)) Tryz.underlying49 rfl (by kernel_rfl) rfl ⟨8,rfl,HR.out.bl hb,by decide,hb⟩
 ·have q1:¬(8:Int)<(n:Int):=by omega
  have HR:Hid (aX W W.heap.size 20 A n c (aj aa (L.take 8))):=qh (by rw[List.take_of_length_le (by omega)];exact hH.out);clear hH hl hle;have z0:=aI.out.cell (i:=0) rfl;have y0:=aI.out.free 0;have n01:=mj.out;go_wp2;have hb:=a8.out.setCell (p:=⟨b1,0,ε⟩) jK.out (γ A n c);exact bS rfl b1 rfl (aI.out.set_ 0 (γ A n c)) Tryz.underlying49 rfl (by kernel_rfl) rfl ⟨n,rfl,HR.out.bl hb,by omega,hb⟩
def ni (x:Gn):Bool→List Gn→List Gn
 |p,[]=>if p=τ then[] else[x]
 |p,y::G=>(if p=ρ∧cU x y≤0 then[x] else[])++((if y.1=x.1 then[] else[y])++ni x (p||decide (cU x y≤0)) G)
theorem Ek {x:Gn}:∀{G:List Gn},(∀y∈G,¬y.1=x.1)→ni x τ G=G
 |[],_=>rfl
 |y::G,h=>by
  show(if τ=ρ∧_ then[x] else[])++((if y.1=x.1 then[] else[y])++ni x (τ||_) G)=y::G
  rw[if_neg (by simp),if_neg (h y List.mem_cons_self),Bool.true_or,Ek (fun z hz=>h z (List.mem_cons_of_mem _ hz))];rfl
theorem IQ {x:Gn}:∀{G:List Gn},ft G→ni x ρ G=px G x
 |[],_=>rfl
 |y::G,h=>by
  have hp:=sQ h;have hc:=List.pairwise_cons.1 hp;have hn:=qi y x
  have far:cU y x≥0→∀z∈G,¬z.1=x.1:=fun h0 z hz e=>by
   have h1:=hc.1 z hz;have h2:cU y z=cU y x:=by unfold cU;rw[e]
   omega
  show(if ρ=ρ∧cU x y≤0 then[x] else[])++((if y.1=x.1 then[] else[y])++ni x (ρ||decide (cU x y≤0)) G)=if cU y x<0 then y::px G x else if cU y x=0 then x::G else x::y::G
  by_cases h1:cU y x<0
  ·have cu:¬y.1=x.1:=fun e=>by have:=(iB y x).2 e;omega
   rw[if_pos h1,if_neg (by omega),if_neg cu,decide_eq_false (by omega),Bool.false_or,IQ (oE h)];rfl
  ·rw[if_neg h1,if_pos ⟨rfl,by omega⟩,decide_eq_true (by omega),Bool.or_true,Ek (far (by omega))]
   by_cases h2:cU y x=0
   ·rw[if_pos h2,if_pos ((iB y x).1 h2)];rfl
   ·rw[if_neg h2,if_neg (fun e=>h2 ((iB y x).2 e))];rfl
theorem KP (G:List Gn) (x:Gn):(iC G x.1).2=G.any (fun y=>decide (y.1=x.1)):=by
 induction G with
 |nil=>rfl
 |cons y G ih=>
  rw[iC,List.any_cons]
  by_cases e:y.1=x.1
  ·rw[if_pos e,decide_eq_true e];rfl
  ·rw[if_neg e,decide_eq_false e,Bool.false_or,ih]
theorem M0 {w W:ο} {B:Nat} {A:Option Κ} {n c:Nat} {T:List Gn} (fz:Ow w B 98 6 (γ A n c) n (aj cB T) W) (x:Gn) (hn:n≤1000):
 ∃A' c' W',(Builtin.append_ #[26,26] 26 #[γ A n c,γ (ζ ⟨W.heap.size,0,ε⟩) 1 1]).run η (W.alloc (δ (cB x).toArray 98))=.ok (γ A' (n+1) c') W'∧Ow w B 98 6 (γ A' (n+1) c') (n+1) (aj cB (T++[x])) W':=by
 obtain⟨i,hi,oX,jL,kd⟩:=aW nz;obtain⟨v',W',cj,ho,-⟩:=Ow.app (P:=η) 26 26 98 i _ 6 48 B Tryz.underlying26 hi oX jL kd rfl (by decide) _ _ _ (fz.up (ax W (δ (cB x).toArray 98))) _ _ 1 1 _ (aX.of_whole (Whole.new_ W 98 (cB x)) rfl) (j9 x) (by unfold maxLen;omega) (by omega);rw[show aj cB T++cB x=aj cB (T++[x]) by rw[bV];simp[aj]] at ho;obtain⟨A',c',rfl,-⟩:=ho.rds;exact⟨A',c',W',cj,ho⟩
theorem xm (A:Option Κ) (n c:Nat) (G:List Gn) (x:Gn) (w:ο) (h:aX w w.heap.size 6 A n c (aj cB G)) (hn:n≤400) (hr:ft G):
 Ζ η 75 #[γ A n c,φ #[J x.1.1,J x.1.2.1,J x.1.2.2,J x.2.1,J x.2.2.1,J x.2.2.2]] w fun e w'=>∃A' n' c',e=.returned (γ A' n' c')∧aX w' w'.heap.size 6 A' n' c' (aj cB (dJ G x))∧σ w.heap.size w w':=by
 have hl:G.length=n:=h.rlen cw (by decide);obtain⟨⟨tq,ok⟩,gf⟩:∃z,iC G x.1=z:=⟨_,rfl⟩
 have Xm:G.any (fun y=>decide (y.1=x.1))=ok:=by rw[←KP,gf]
 have HF:Hid (∀X,σ w.heap.size w X→Ζ η 101 #[γ A n c,φ #[J x.1.1,J x.1.2.1,J x.1.2.2]] X fun e w'=>e=.returned (Ξ #[φ #[J tq.1,J tq.2.1,J tq.2.2],Β ok])∧σ X.heap.size X w'):=qh (fun X hX=>by
  have:=zC A n c G x.1 X (h.bl hX) (by omega)
  rwa [gf] at this)
 have H:=qh h;have HL:=qh hl;have HR:=qh hr;have Lr:=qh Xm;have kM:Whole (w.alloc (δ #[J x.1.1,J x.1.2.1,J x.1.2.2,J x.2.1,J x.2.2.1,J x.2.2.2] 98)) w.heap.size 98 (cB x):=Whole.new_ w 98 (cB x);have kx:=ax w (δ #[J x.1.1,J x.1.2.1,J x.1.2.2,J x.2.1,J x.2.2.1,J x.2.2.2] 98);clear h hl hr gf Xm;go_enter Tryz.func75,Tryz.ntmps75;go_upto_region 1 with fail
 obtain⟨w0,Qi⟩:=ay (w.alloc (δ #[J x.1.1,J x.1.2.1,J x.1.2.2,J x.2.1,J x.2.2.1,J x.2.2.2] 98));obtain⟨b0,bK⟩:=ay w.heap.size;rw[Qi] at kM kx ⊢;rw[bK] at kM ⊢;have aN:=qh kM;have a8:=qh kx;clear Qi bK kM kx;have x0:=aN.out.cell (i:=0) rfl;have x1:=aN.out.cell (i:=1) rfl;have x2:=aN.out.cell (i:=2) rfl
 go_upto_region 2 with (first
  |(go_at_call 101
    refine(HF.out _ a8.out).mono ?_
    rintro e w1 ⟨rfl,e8⟩;have eA:=qh (af a8.out e8);have aI:=qh (aN.out.bl e8);clear e8 aN a8 x0 x1 x2))
 have bX:=qh (aE eA.out (δ #[J tq.1,J tq.2.1,J tq.2.2] 32));have aV:=qh (aI.out.al (δ #[J tq.1,J tq.2.1,J tq.2.2] 32));obtain⟨w2,Hf⟩:=ay (w1.alloc (δ #[J tq.1,J tq.2.1,J tq.2.2] 32));rw[Hf] at bX aV ⊢;clear Hf eA aI HF
 by_cases Ij:ok=ρ∧400≤n
 ·obtain⟨rfl,h4⟩:=Ij;have q:(400:Int)≤(n:Int):=by omega
  have hA:dJ G x=G:=xM Lr.out (by rw[HL.out];exact h4);have HA:=qh hA;clear hA h4;go_wp2;go_ret;exact⟨A,n,c,rfl,by rw[HA.out];exact H.out.bl bX.out,bX.out⟩
 have HA:Hid (dJ G x=ni x ρ G):=qh (by
  rw[IQ HR.out];cases hk:ok with
  |false=>
   have e:(G.any fun y=>decide (y.1=x.1))=ρ:=by rw[Lr.out,hk]
   exact wP e (by rw[HL.out];exact fun q=>Ij ⟨hk,q⟩)
  |true=>
   have e:(G.any fun y=>decide (y.1=x.1))=τ:=by rw[Lr.out,hk]
   exact uK e (by rw[HL.out];omega))
 have Km:ok=τ∨n<400:=by
  cases hk:ok with
  |true=>exact .inl rfl
  |false=>exact .inr (Nat.lt_of_not_le (fun q=>Ij ⟨hk,q⟩))
 have q2:ok=ρ→¬(400:Int)≤(n:Int):=fun h=>by
  rcases Km with h1|h1
  ·rw[h] at h1;cases h1
  ·omega
 have JP:Hid (Ow w2 w2.heap.size 98 6 (γ (ζ ⟨w2.heap.size,0,ε⟩) 0 0) 0 (aj cB []) (w2.alloc (δ #[] 98))):=qh ⟨kG (junk:=[]) (show Whole (w2.alloc (δ #[] 98)) w2.heap.size 98 [] from Whole.new_ _ _ []) (Δ _) rfl (Δ _) (by decide) rfl,ax w2 _,Δ _,by simp⟩;clear Ij Km Lr;go_cut [23] (fun v z=>v=Β ρ∧z=w2)
 case first=>
  cases ok with
  |false=>
   have q3:=q2 rfl;clear q2;go_wp2_with fail
   go_meet;exact⟨rfl,rfl⟩
  |true=>
   clear q2;go_wp2_with fail
   go_meet;exact⟨rfl,rfl⟩
 case rest=>
  obtain⟨rfl,hz⟩:=hcut;clear q2;obtain rfl:w2=wc:=hz.symm;go_upto_region 5 with fail
  obtain⟨g1,Ib⟩:=ay w2.heap.size;obtain⟨w3,sX⟩:=ay (w2.alloc (δ #[] 98));rw[sX,Ib] at JP;rw[sX,Ib];clear sX;have mD:Hid (ni x ρ G=[]++ni x ρ (G.drop 0)):=qh rfl;have Gg1:=qh Ib;clear Ib;go_upto_region 7 with fail
  go_loopw [7,8,9] (fun vo vp vi wr=>∃(j:Nat) (p:Bool) (A2:Option Κ) (n2 c2:Nat) (T:List Gn),j≤n∧n2≤2*j∧vo=γ A2 n2 c2∧vp=Β p∧vi=J (j:Int)∧Hid (Ow w2 g1 98 6 (γ A2 n2 c2) n2 (aj cB T) wr)∧Hid (ni x ρ G=T++ni x p (G.drop j))) (fun _ _ vi _=>n - (intOf vi).toNat)
  case atStart=>exact⟨0,ρ,_,0,0,[],Jas _,Jas _,rfl,rfl,rfl,JP,mD⟩
  case round=>
   clear JP mD;obtain⟨j,p,A2,n2,c2,T,hj,PE,rfl,rfl,rfl,HO,HN⟩:=hrel;obtain⟨wo,ec⟩:=ay wr;rw[ec] at HO ⊢;clear ec
   by_cases o4:j<n
   ·have rD:(j:Int)<(n:Int):=by omega
    obtain⟨y,hy⟩:∃y,G[j]? =ζ y:=⟨_,θ (by have:=HL.out;omega)⟩
    have wE:G.drop j=y::G.drop (j+1):=by
     rw[Χ (ν.1 hy).1,(ν.1 hy).2]
    have pO:Hid (ni x ρ G=T++((if p=ρ∧cU x y≤0 then[x] else[])++((if y.1=x.1 then[] else[y])++ni x (p||decide (cU x y≤0)) (G.drop (j+1))))):=qh (by
     have:=HN.out
     rw[wE] at this;exact this)
    obtain⟨bb,off,rfl,bD,bM⟩:=H.out.place cw (by decide) (by omega);have L0:=qh (by have q:=bM j _ hy 0 _ rfl;simp only[Ν,Jac] at q;exact q);have L1:=qh (by have q:=bM j _ hy 1 _ rfl;simp only[Ν,Jac] at q;exact q);have L2:=qh (by have q:=bM j _ hy 2 _ rfl;simp only[Ν,Jac] at q;exact q);have HP:=qh (bM j _ hy);obtain⟨o,go⟩:=ay (cU x y);have HOr:Hid (∀X,Ζ η 56 #[φ #[J x.1.1,J x.1.2.1,J x.1.2.2],φ #[J y.1.1,J y.1.2.1,J y.1.2.2]] X fun e w'=>e=.returned (J o)∧σ X.heap.size X w'):=qh (fun X=>go▸pI x.1.1 x.1.2.1 x.1.2.2 y.1.1 y.1.2.1 y.1.2.2 X);rw[go] at pO;have HW:=qh (af bX.out HO.out.below);have vl:=qh (aV.out.bl HO.out.below);clear hy wE bM go HN;go_upto_region 9 with fail
    go_cut [44] (fun v z=>∃b:Bool,v=Β b∧Hid (b=(!p && decide (o≤0)))∧Hid (σ wo.heap.size wo z))
    case first=>
     cases p with
     |true=>
      refine aw (aF) (by kernel_rfl) ?_;refine ag 0 ?_;refine ag 1 ?_;refine ag 2 ?_;refine bg 3 ?_;refine bg 4 ?_;refine bg 5 ?_;refine bg 6 ?_;refine bg 7 ?_;refine bg 8 ?_;refine bg 9 ?_;refine bg 10 ?_;refine bg 11 ?_;refine ag 12 ?_;refine aD (by kernel_rfl) ?_ _;intro w8 cE;go_wp2;go_meet;exact⟨ρ,rfl,qh rfl,qh (af (aL (Θ _ wo)) cE)⟩
     |false=>
      have qC:=dm (i:=0) vl.out rfl;have qw:=dm (i:=1) vl.out rfl;have Pq:=dm (i:=2) vl.out rfl;have ly0:∀w',Kept aF wo.drew w'→w'.cell? ⟨bb,off+j*6,ε⟩=ζ (J y.1.1):=fun w' h=>h.nil_cell ((HW.out.cell (p:=⟨bb,off+j*6,ε⟩) bD).trans L0.out)
      have ly1:∀w',Kept aF wo.drew w'→w'.cell? ⟨bb,off+j*6+1,ε⟩=ζ (J y.1.2.1):=fun w' h=>h.nil_cell ((HW.out.cell (p:=⟨bb,off+j*6+1,ε⟩) bD).trans L1.out)
      have ly2:∀w',Kept aF wo.drew w'→w'.cell? ⟨bb,off+j*6+2,ε⟩=ζ (J y.1.2.2):=fun w' h=>h.nil_cell ((HW.out.cell (p:=⟨bb,off+j*6+2,ε⟩) bD).trans L2.out)
      refine aw (aF) (by kernel_rfl) ?_;refine ag 0 ?_;refine ag 1 ?_;refine ag 2 ?_;refine ag 3 ?_;refine ag 4 ?_;refine ag 5 ?_;refine ag 6 ?_;refine ag 7 ?_;refine ag 8 ?_;refine ag 9 ?_;refine bY 10 (hy:=by apply ck;rfl;rotate_left;intro w' aB;exact HOr.out w';intro w';go_simp) (h:=?_);refine ag 11 ?_;refine ag 12 ?_;refine aD (by kernel_rfl) ?_ _;intro w8 cE;go_wp2;go_meet;exact⟨decide (o≤0),rfl,qh (by simp),qh (af (aL (Θ _ wo)) cE)⟩
    case rest=>
     obtain⟨b,rfl,hb,hz⟩:=hcut;have oW:=qh (HO.out.up hz.out);have gS:=qh (vl.out.bl hz.out)
     have O4:Hid (ni x ρ G=(T++if b=τ then[x] else[])++((if y.1=x.1 then[] else[y])++ni x (p||b) (G.drop (j+1)))):=qh (by
      have e:=hb.out;have h:=pO.out;cases p with
      |true=>
       rw[e,h,if_neg (by simp)];simp
      |false=>
       by_cases ho:o≤0
       ·rw[if_pos ⟨rfl,ho⟩] at h;rw[e,h,decide_eq_true ho];simp
       ·rw[if_neg (fun q=>ho q.2)] at h;rw[e,h,decide_eq_false ho];simp)
     clear hz hb pO HO vl HOr HW;go_upto_if 44 with fail
     go_cut [7,8] (fun vo vp z=>∃(A3:Option Κ) (n3 c3:Nat) (T3:List Gn),vo=γ A3 n3 c3∧vp=Β (p||b)∧n3≤n2+1∧Hid (Ow w2 g1 98 6 (γ A3 n3 c3) n3 (aj cB T3) z)∧Hid (ni x ρ G=T3++((if y.1=x.1 then[] else[y])++ni x (p||b) (G.drop (j+1)))))
     case first=>
      cases b with
      |false=>
       have AD:=O4;go_wp2_with fail
       go_meet;exact⟨A2,n2,c2,T,rfl,by simp,by omega,oW,qh (by have:=AD.out;simpa using this)⟩
      |true=>
       obtain⟨A3,c3,W3,cj,yx⟩:=M0 oW.out x (by omega);have kB:=qh yx;clear yx;go_upto_region 10 with fail
       refine Jam ?_;refine ah (v:=?_) (ζ 45) rfl (by rfl) ?_ ?_;rotate_left
       ·go_simp;(try with_reducible rfl)
       simp only[ξ,aq,ak,ao];refine bw (ζ 46) rfl (by rfl) 98 (.tmp 3) rfl b0 rfl 98 (cB x) _ gS.out Tryz.underlying98 rfl (by kernel_rfl) ?_;simp only[ξ,aq,ak,ao];refine dz (ζ 47) rfl (by rfl) 26 98 1 #[(0,.tmp 46)] (by rfl) Tryz.underlying26 (cB x).toArray (by kernel_rfl) ?_;simp only[ξ,aq,ak,ao];refine jU (ζ 48) rfl (by rfl) (cA (by rfl) (by rfl) (by rfl) cj) ?_;simp only[ξ,aq,ak,ao];clear cj;have AD:=O4;go_wp2_with fail
       go_meet;exact⟨A3,n2+1,c3,T++[x],rfl,by simp,by omega,kB,qh (by have:=AD.out;simpa using this)⟩
     case rest=>
      obtain⟨A3,n3,c3,T3,rfl,rfl,hn3,ku,wg⟩:=hcut;obtain⟨wo,ec⟩:=ay wc;rw[ec] at ku ⊢;clear ec O4 oW gS;have HW:=qh (af bX.out ku.out.below);have vl:=qh (aV.out.bl ku.out.below);obtain⟨p2,SX⟩:=ay ((p||b));rw[SX] at wg ⊢;clear SX;have hq:∀W,(binOp .neq 32 (φ #[J y.1.1,J y.1.2.1,J y.1.2.2]) (φ #[J x.1.1,J x.1.2.1,J x.1.2.2])).run η W=.ok (Β (!decide (y.1=x.1))) W:=fun W=>jr y.1 x.1 W
      obtain⟨e,ge⟩:=ay (decide (y.1=x.1));rw[ge] at hq;have HE:=qh ge;clear ge;have qC:=dm (i:=0) vl.out rfl;have qw:=dm (i:=1) vl.out rfl;have Pq:=dm (i:=2) vl.out rfl;have ly0:∀w',Kept aF wo.drew w'→w'.cell? ⟨bb,off+j*6,ε⟩=ζ (J y.1.1):=fun w' h=>h.nil_cell ((HW.out.cell (p:=⟨bb,off+j*6,ε⟩) bD).trans L0.out)
      have ly1:∀w',Kept aF wo.drew w'→w'.cell? ⟨bb,off+j*6+1,ε⟩=ζ (J y.1.2.1):=fun w' h=>h.nil_cell ((HW.out.cell (p:=⟨bb,off+j*6+1,ε⟩) bD).trans L1.out)
      have ly2:∀w',Kept aF wo.drew w'→w'.cell? ⟨bb,off+j*6+2,ε⟩=ζ (J y.1.2.2):=fun w' h=>h.nil_cell ((HW.out.cell (p:=⟨bb,off+j*6+2,ε⟩) bD).trans L2.out)
      go_upto_region 12 with fail
      refine aw (aF) (by kernel_rfl) ?_;refine ag 0 ?_;refine ag 1 ?_;refine ag 2 ?_;refine ag 3 ?_;refine ag 4 ?_;refine ag 5 ?_;refine ag 6 ?_;refine bY 7 (hy:=dG (by rfl) (fun w' aB=>bE .neq 32 (.tmp 53) (.tmp 55) 32 rfl rfl rfl (by kernel_rfl) (hq w'))) (h:=?_);refine aD (by kernel_rfl) ?_ _;intro w8 cE;have El:=qh ((ku.out.up ((Θ wo.heap.size wo).drew)).up cE);have HW8:=qh (af bX.out El.out.below);clear cE ku HW vl qC qw Pq ly0 ly1 ly2 hq;cases e with
      |true=>
       have xQ:Hid (ni x ρ G=T3++ni x p2 (G.drop (j+1))):=qh (by
        have h:=wg.out;rw[if_pos (of_decide_eq_true HE.out)] at h;exact h)
       clear wg HE;go_wp2;go_roundw
       case rel=>exact⟨j+1,p2,A3,n3,c3,T3,by omega,by omega,rfl,rfl,by go_num,El,xQ⟩
       case measure=>simp[intOf];omega
      |false=>
       have xQ:Hid (ni x ρ G=(T3++[y])++ni x p2 (G.drop (j+1))):=qh (by
        have h:=wg.out;rw[if_neg (of_decide_eq_false HE.out)] at h;rw[h];simp)
       clear wg HE;go_upto_region 13 with fail
       obtain⟨A4,c4,W4,cj,Y2⟩:=M0 El.out y (by omega);have oW:=qh Y2;clear Y2 El;refine Jam ?_;refine ah (v:=?_) (ζ 57) rfl (by rfl) ?_ ?_;rotate_left
       ·go_simp;(try with_reducible rfl)
       simp only[ξ,aq,ak,ao];refine ah (v:=?_) (ζ 58) rfl (by rfl) ?_ ?_;rotate_left
       ·go_simp;(try with_reducible rfl)
       simp only[ξ,aq,ak,ao];refine ah (v:=?_) (ζ 59) rfl (by rfl) ?_ ?_;rotate_left
       ·go_simp;(try with_reducible rfl)
       simp only[ξ,aq,ak,ao];refine ah (v:=?_) (ζ 60) rfl (by rfl) ?_ ?_;rotate_left
       ·go_simp;(try with_reducible rfl)
       simp only[ξ,aq,ak,ao];refine oH (ζ 61) rfl (by rfl) 98 (.tmp 60) rfl ⟨bb,off+j*6,ε⟩ rfl (cB y) _ (fun i u hu=>(HW8.out.cell (by rw[cJ];exact bD)).trans (HP.out i u hu)) Tryz.underlying98 rfl (by kernel_rfl) ?_;simp only[ξ,aq,ak,ao];refine dz (ζ 62) rfl (by rfl) 26 98 1 #[(0,.tmp 61)] (by rfl) Tryz.underlying26 (cB y).toArray (by kernel_rfl) ?_;simp only[ξ,aq,ak,ao];refine jU (ζ 63) rfl (by rfl) (cA (by rfl) (by rfl) (by rfl) cj) ?_;simp only[ξ,aq,ak,ao];clear cj HP;go_wp2;go_roundw
       case rel=>exact⟨j+1,p2,A4,n3+1,c4,T3++[y],by omega,by omega,rfl,rfl,by go_num,oW,xQ⟩
       case measure=>simp[intOf];omega
   ·obtain rfl:n=j:=by omega
    have hN:=HN.out;rw[Jak (by have:=HL.out;omega)] at hN;have tX:=qh (aV.out.bl HO.out.below);cases p with
    |true=>
     have HT:Hid (dJ G x=T):=qh (by rw[HA.out,hN];show T++(if τ=τ then[] else[x])=T;simp);clear hN HN;go_wp2;go_ret;exact⟨A2,n2,c2,rfl,by rw[HT.out];exact aJ HO.out.own,af bX.out HO.out.below⟩
    |false=>
     have HT:Hid (dJ G x=T++[x]):=qh (by rw[HA.out,hN];rfl);obtain⟨A3,c3,W3,cj,yx⟩:=M0 HO.out x (by omega);have kB:=qh yx;clear yx hN HN;go_upto_region 15 with fail
     refine Jam ?_;refine ah (v:=?_) (ζ 66) rfl (by rfl) ?_ ?_;rotate_left
     ·go_simp;(try with_reducible rfl)
     simp only[ξ,aq,ak,ao];refine bw (ζ 67) rfl (by rfl) 98 (.tmp 3) rfl b0 rfl 98 (cB x) _ tX.out Tryz.underlying98 rfl (by kernel_rfl) ?_;simp only[ξ,aq,ak,ao];refine dz (ζ 68) rfl (by rfl) 26 98 1 #[(0,.tmp 67)] (by rfl) Tryz.underlying26 (cB x).toArray (by kernel_rfl) ?_;simp only[ξ,aq,ak,ao];refine jU (ζ 69) rfl (by rfl) (cA (by rfl) (by rfl) (by rfl) cj) ?_;simp only[ξ,aq,ak,ao];clear cj;go_wp2;go_ret;exact⟨A3,n2+1,c3,rfl,by rw[HT.out];exact aJ kB.out.own,af bX.out kB.out.below⟩
section
variable {W:ο} {A:Option Κ} {n c:Nat} {Vs:List VC} {B:Option Κ} {m k:Nat} {Es:List EC} {C:Option Κ} {r rc:Nat} {G:List Gn}
theorem Nx (h:aR W A n c Vs B m k Es) (hg:aX W W.heap.size 6 C r rc (aj cB G)) (hn:n≤1000) (hr:∀y∈Vs,y.2.1.2.1≤1000000) (ji:r≤1000) (d:D):
 Ζ η 98 #[φ #[γ A n c,γ B m k,γ C r rc],φ #[J d.1,J d.2.1,J d.2.2]] W fun e w'=>e=.returned (φ #[J (ml (Hh Vs) G r d).1,J (ml (Hh Vs) G r d).2.1,J (ml (Hh Vs) G r d).2.2])∧σ W.heap.size W w':=by
 have HA:Hid (∀X,σ W.heap.size W X→∀x1 x2 x3,Ζ η 29 #[φ #[γ A n c,γ B m k],φ #[J x1,J x2,J x3]] X fun e w'=>e=.returned (Ξ #[φ #[J (kj Vs (x1,x2,x3)).1.1,J (kj Vs (x1,x2,x3)).1.2],Β (kj Vs (x1,x2,x3)).2])∧σ X.heap.size X w'):=qh (fun X hX x1 x2 x3=>oN A n c Vs B m k Es x1 x2 x3 X (h.below hX) (by omega) (fun y hy=>by have:=hr y hy;omega));have HF:Hid (∀X,σ W.heap.size W X→∀x:D,Ζ η 101 #[γ C r rc,φ #[J x.1,J x.2.1,J x.2.2]] X fun e w'=>e=.returned (Ξ #[φ #[J (iC G x).1.1,J (iC G x).1.2.1,J (iC G x).1.2.2],Β (iC G x).2])∧σ X.heap.size X w'):=qh (fun X hX x=>zC C r rc G x X (hg.bl hX) (by omega));obtain⟨z,gz⟩:=ay (ml (Hh Vs) G r d);have mD:Hid (if 0≤r then ml (Hh Vs) G (r - 0) d=z else z=zD):=qh (by rw[if_pos (Jas _)];exact gz);rw[gz];obtain⟨d1,d2,d3⟩:=d;obtain⟨z1,z2,z3⟩:=z;clear h hg hr gz;go_enter Tryz.func98,Tryz.ntmps98;go_upto_region 1 with fail
 obtain⟨W0,b0,b1,b2,bP,bK,cX,dN,aN,aI,aV,a8,-,-,kQ,-,jK,-,bz,mj,oK,km⟩:=jN W 28 [γ A n c,γ B m k,γ C r rc] 32 [J d1,J d2,J d3] 32 [J 0,J 0,J 0];rw[bP,dN,cX,bK];clear bP bK cX dN;go_upto_region 2 with fail
 go_loopw [5] (fun vi wr=>∃(j:Nat) (e1 e2 e3:Int),j≤r+1∧vi=J (j:Int)∧Hid (σ W.heap.size W wr)∧Hid (Whole wr b0 28 [γ A n c,γ B m k,γ C r rc])∧Hid (Whole wr b1 32 [J e1,J e2,J e3])∧Hid (Whole wr b2 32 [J 0,J 0,J 0])∧Hid (if j≤r then ml (Hh Vs) G (r - j) (e1,e2,e3)=(z1,z2,z3) else(z1,z2,z3)=zD)) (fun vi _=>r+1 - (intOf vi).toNat)
 case atStart=>exact⟨0,d1,d2,d3,Jas _,rfl,a8,aN,aI,aV,mD⟩
 case round=>
  clear a8 aN aI aV mD;obtain⟨j,e1,e2,e3,hj,rfl,HB,aN,aI,aV,HN⟩:=hrel;obtain⟨wo,ec⟩:=ay wr;rw[ec] at HB aN aI aV ⊢;clear ec
  by_cases hjr:j≤r
  ·have hi:(j:Int)≤(r:Int):=by omega
   have x0:=aN.out.cell (i:=0) rfl;have x1:=aN.out.cell (i:=1) rfl;have x2:=aN.out.cell (i:=2) rfl;have p0:=aI.out.cell (i:=0) rfl;have p1:=aI.out.cell (i:=1) rfl;have p2:=aI.out.cell (i:=2) rfl;obtain⟨⟨⟨a1,a2⟩,st⟩,ga⟩:∃z,kj Vs (e1,e2,e3)=z:=⟨_,rfl⟩
   have GV:Hh Vs (e1,e2,e3)=st:=by unfold Hh;rw[ga]
   have Wa:=qh (HA.out wo HB.out e1 e2 e3);rw[ga] at Wa;have HSt:=qh GV;have q9:Hid (ml (Hh Vs) G (r - j) (e1,e2,e3)=(z1,z2,z3)):=qh (by have:=HN.out;rwa [if_pos hjr] at this);clear ga GV HN
   go_upto_region 5 with (first
    |(go_at_call 29
      refine Wa.out.mono ?_;rintro e w2 ⟨rfl,ar⟩;have bX:=qh (aE (af HB.out ar) (δ #[J a1,J a2] 30));have vQ:=qh ((aN.out.bl ar).al (δ #[J a1,J a2] 30));have lW:=qh ((aI.out.bl ar).al (δ #[J a1,J a2] 30));have tK:=qh ((aV.out.bl ar).al (δ #[J a1,J a2] 30));clear ar HB aN aI aV Wa x0 x1 x2 p0 p1 p2))
   obtain⟨w3,sX⟩:=ay (w2.alloc (δ #[J a1,J a2] 30));rw[sX] at bX vQ lW tK ⊢;clear sX;cases st with
   |true=>
    have hz:(e1,e2,e3)=(z1,z2,z3):=by rw[←q9.out,Ku _ _ _ HSt.out]
    injection hz with h1 h2
    injection h2 with h2 h3
    subst h1 h2 h3;have p0:=lW.out.cell (i:=0) rfl;have p1:=lW.out.cell (i:=1) rfl;have p2:=lW.out.cell (i:=2) rfl;have zz0:=tK.out.cell (i:=0) rfl;have zz1:=tK.out.cell (i:=1) rfl;have zz2:=tK.out.cell (i:=2) rfl;have y0:=tK.out.free 0;have y1:=tK.out.free 1;have y2:=tK.out.free 2;have nb:=km.out;go_wp2;exact bS rfl b2 rfl (((tK.out.set_ 0 (J e1)).set_ 1 (J e2)).set_ 2 (J e3)) Tryz.underlying32 rfl (by kernel_rfl) rfl ⟨rfl,(((bX.out.setCell (p:=⟨b2,0,ε⟩) bz.out (J e1)).setCell (p:=⟨b2,1,ε⟩) bz.out (J e2)).setCell (p:=⟨b2,2,ε⟩) bz.out (J e3))⟩
   |false=>
    have x0:=vQ.out.cell (i:=0) rfl;have x1:=vQ.out.cell (i:=1) rfl;have x2:=vQ.out.cell (i:=2) rfl;have p0:=lW.out.cell (i:=0) rfl;have p1:=lW.out.cell (i:=1) rfl;have p2:=lW.out.cell (i:=2) rfl;obtain⟨⟨⟨t1,t2,t3⟩,ok⟩,gf⟩:∃z,iC G (e1,e2,e3)=z:=⟨_,rfl⟩
    have Yk:=qh (HF.out w3 bX.out (e1,e2,e3));rw[gf] at Yk;have HGf:=qh gf;clear gf
    go_upto_region 8 with (first
     |(go_at_call 101
       refine Yk.out.mono ?_;rintro e w4 ⟨rfl,kv⟩;have gW:=qh (aE (af bX.out kv) (δ #[J t1,J t2,J t3] 32));have Kh:=qh ((vQ.out.bl kv).al (δ #[J t1,J t2,J t3] 32));have oD:=qh ((lW.out.bl kv).al (δ #[J t1,J t2,J t3] 32));have qZ:=qh ((tK.out.bl kv).al (δ #[J t1,J t2,J t3] 32));have DI:=qh (Whole.new_ w4 32 [J t1,J t2,J t3]);have Nt4:Hid (b1≠w4.heap.size):=qh (by have:=(lW.out.bl kv).lt;omega);clear kv bX vQ lW tK Yk x0 x1 x2 p0 p1 p2))
    obtain⟨w5,Xv⟩:=ay (w4.alloc (δ #[J t1,J t2,J t3] 32));obtain⟨b5,Np⟩:=ay w4.heap.size;rw[Xv] at gW Kh oD qZ DI ⊢;rw[Np] at DI Nt4 ⊢;clear Xv Np;have Xi:¬Hh Vs (e1,e2,e3)=τ:=by rw[HSt.out];decide
    cases ok with
    |false=>
     have hz:(z1,z2,z3)=zD:=by rw[←q9.out,KE _ _ _ Xi (by rw[HGf.out];exact Bool.false_ne_true)]
     injection hz with h1 h2
     injection h2 with h2 h3
     subst h1 h2 h3;clear Xi;have zz0:=qZ.out.cell (i:=0) rfl;have zz1:=qZ.out.cell (i:=1) rfl;have zz2:=qZ.out.cell (i:=2) rfl;have y0:=qZ.out.free 0;have y1:=qZ.out.free 1;have y2:=qZ.out.free 2;go_wp2;exact bS rfl b2 rfl (((qZ.out.set_ 0 (J 0)).set_ 1 (J 0)).set_ 2 (J 0)) Tryz.underlying32 rfl (by kernel_rfl) rfl ⟨rfl,(((gW.out.setCell (p:=⟨b2,0,ε⟩) bz.out (J 0)).setCell (p:=⟨b2,1,ε⟩) bz.out (J 0)).setCell (p:=⟨b2,2,ε⟩) bz.out (J 0))⟩
    |true=>
     have HNn:Hid (if j+1≤r then ml (Hh Vs) G (r - (j+1)) (t1,t2,t3)=(z1,z2,z3) else(z1,z2,z3)=zD):=qh (by
      have h:=q9.out
      by_cases fh:j+1≤r
      ·rw[if_pos fh];rw[show r - j=(r - (j+1))+1 by omega,Kq _ _ _ Xi (by rw[HGf.out]),HGf.out] at h;exact h
      ·rw[if_neg fh];rw[show r - j=0 by omega,Pf _ _ Xi] at h;exact h.symm)
     clear Xi q9 HGf HSt;have U9:=DI.out.cell (i:=0) rfl;have UG:=DI.out.cell (i:=1) rfl;have UP:=DI.out.cell (i:=2) rfl;have p0:=oD.out.cell (i:=0) rfl;have p1:=oD.out.cell (i:=1) rfl;have p2:=oD.out.cell (i:=2) rfl;have y0:=oD.out.free 0;have y1:=oD.out.free 1;have y2:=oD.out.free 2;go_wp2;go_roundw
     case rel=>exact⟨j+1,t1,t2,t3,by omega,by go_num,qh (((gW.out.setCell (p:=⟨b1,0,ε⟩) jK.out (J t1)).setCell (p:=⟨b1,1,ε⟩) jK.out (J t2)).setCell (p:=⟨b1,2,ε⟩) jK.out (J t3)),qh (((Kh.out.set_far' (i:=0) mj.out (J t1)).set_far' (i:=1) mj.out (J t2)).set_far' (i:=2) mj.out (J t3)),qh (((oD.out.set_ 0 (J t1)).set_ 1 (J t2)).set_ 2 (J t3)),qh (((qZ.out.set_far' (i:=0) km.out.symm (J t1)).set_far' (i:=1) km.out.symm (J t2)).set_far' (i:=2) km.out.symm (J t3)),HNn⟩
     case measure=>simp[intOf];omega
  ·have hi:¬(j:Int)≤(r:Int):=by omega
   have hz:(z1,z2,z3)=zD:=by have:=HN.out;rwa [if_neg hjr] at this
   injection hz with h1 h2
   injection h2 with h2 h3
   subst h1 h2 h3;clear HN;have x2:=aN.out.cell (i:=2) rfl;have zz0:=aV.out.cell (i:=0) rfl;have zz1:=aV.out.cell (i:=1) rfl;have zz2:=aV.out.cell (i:=2) rfl;have y0:=aV.out.free 0;have y1:=aV.out.free 1;have y2:=aV.out.free 2;go_wp2;exact bS rfl b2 rfl (((aV.out.set_ 0 (J 0)).set_ 1 (J 0)).set_ 2 (J 0)) Tryz.underlying32 rfl (by kernel_rfl) rfl ⟨rfl,(((HB.out.setCell (p:=⟨b2,0,ε⟩) bz.out (J 0)).setCell (p:=⟨b2,1,ε⟩) bz.out (J 0)).setCell (p:=⟨b2,2,ε⟩) bz.out (J 0))⟩
end
end Go.Proofs.YtpdpbfmiahjiiaaGreat
