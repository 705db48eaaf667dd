/- Several texts in one. -/
import Derived.Test.YtpdpbfmiahjiiaaGreatPlAB
import Derived.Test.YtpdpbfmiahjiiaaGreatPlAC
import Derived.Test.YtpdpbfmiahjiiaaGreatPlAD
import Derived.Test.YtpdpbfmiahjiiaaGreatPlAF
import Derived.Test.YtpdpbfmiahjiiaaGreatPlAN
import Derived.Test.YtpdpbfmiahjiiaaGreatPlAO
set_option linter.unusedSectionVars false
set_option linter.unusedSimpArgs false
set_option linter.unusedVariables false
set_option maxRecDepth 100000
set_option maxHeartbeats 16000000
namespace Go.Proofs.YtpdpbfmiahjiiaaGreat
open Go.RowKit
open _root_.Go.Value renaming slice→γ,pointer→υ,agg→φ,bool→Β,tuple→Ξ
open _root_.Go.Obj renaming cells→δ
open _root_.Option renaming none→ε,some→ζ
open _root_.Go.Proofs.Tryz renaming prog→η
open _root_.List renaming getElem?_eq_getElem→θ,getElem?_eq_some_iff→ν,mem_of_getElem?→ω,drop_eq_getElem_cons→Χ,drop_of_length_le→Jak,mem_singleton→Jao
open _root_.Go.Act renaming put→ξ
open _root_.Go renaming World→ο,Calls→Ζ,Addr→Κ,wp_region_lit→Jam
open _root_.Bool renaming false→ρ,true→τ
open _root_.Go.RowKit renaming Below→σ
open _root_.Nat renaming le_refl→Δ,le_trans→Λ,add_zero→Jac,zero_le→Jas
open _root_.Go.RowKit.Below renaming refl→Θ
open _root_.Go.Addr renaming add_lit→Ν
def ti (W:ο) (R:SS × Int) (e:Ending) (w':ο):Prop:=
 σ W.heap.size W w'∧((R.2=0∧∃A n c Vs B m k Es C r rc G,e=.returned (Ξ #[φ #[γ A n c,γ B m k,γ C r rc],J 0])∧wY w' W.heap.size A n c Vs B m k Es C r rc G∧(Vs.map vS,Es,G)=R.1)∨(R.2≠0∧e=.returned (Ξ #[φ #[γ ε 0 0,γ ε 0 0,γ ε 0 0],J R.2])))
theorem oS {P:Program} {fn:Func} {R:Ending→ο→Prop} {a:Act} {w:ο} {p q:Tmp} {t:TypeId} (h:fn.results=#[.cell p t,.tmp q]) (g:Nat) {t':TypeId} {cs:List Value} {d:TypeDesc}
 (hp:a.tmps.getD p undef=υ (ζ ⟨g,0,ε⟩)) (hW:Whole w g t' cs) (hu:P.underlying t=ζ d) (hd:d.isRow=τ) (hi:(P.info? t).map (·.size)=ζ cs.length)
 (v:Value) (hv:a.tmps.getD q undef=v) (Rq:a.defers=[]) (hR:R (.returned (Ξ #[φ cs.toArray,v])) w):bodyPost P fn R .ret a w:=by
 refine bodyPost_ret (v:=Ξ #[φ cs.toArray,v]) ?_ Rq hR
 have hl:=run_loadVar_mid (P:=P) w g 0 t cs d (fun j v hv=>by
  have:=hW.cell hv
  simpa using this) hu hd hi
 rw[Array.getD_eq_getD_getElem?] at hp hv;simp[results,h,hp,hv,asAddr,Sem.run_bind,Result.andThen,hl]
theorem xQ {S0:SS} {L:List cO} {S:SS} {j:Nat} {o:cO} (h:hY S0 L=hY S (L.drop j)) (ho:L[j]? =ζ o) (hk:(bO S o).2=0):hY S0 L=hY (bO S o).1 (L.drop (j+1)):=by
 have hj:=(ν.1 ho).1;have e:L.drop j=o::L.drop (j+1):=by rw[Χ hj,(ν.1 ho).2]
 rw[h,e]
 show(if (bO S o).2=0 then _ else _)=_
 rw[if_pos hk]
theorem xt {S0:SS} {L:List cO} {S:SS} {j:Nat} {o:cO} (h:hY S0 L=hY S (L.drop j)) (ho:L[j]? =ζ o) (hk:¬(bO S o).2=0):hY S0 L=(cC,(bO S o).2):=by
 have hj:=(ν.1 ho).1;have e:L.drop j=o::L.drop (j+1):=by rw[Χ hj,(ν.1 ho).2]
 rw[h,e]
 show(if (bO S o).2=0 then _ else _)=_
 rw[if_neg hk]
theorem fH.so {w W:ο} {lo g:Nat} {A:Option Κ} {n c:Nat} {Vs:List VC} {B:Option Κ} {m k:Nat} {Es:List EC} {C:Option Κ} {r rc:Nat} {G:List Gn} (h:fH w lo g A n c Vs B m k Es C r rc G W):wY W w.heap.size A n c Vs B m k Es C r rc G:=
 ⟨e8 h.v h.lo_,e8 h.e h.lo_,h.rg,e8 h.gn h.lo_⟩
theorem wY.cellT {W:ο} {lo g:Nat} {A:Option Κ} {n c:Nat} {Vs:List VC} {B:Option Κ} {m k:Nat} {Es:List EC} {C:Option Κ} {r rc:Nat} {G:List Gn} {cs:List Value} (h:wY W lo A n c Vs B m k Es C r rc G) (hw:Whole W g 28 cs) (i:Nat) (u:Value):wY (W.setCell ⟨g,i,ε⟩ u) lo A n c Vs B m k Es C r rc G:=
 ⟨aI h.v (bM h.v hw (by decide)) _,aI h.e (bM h.e hw (by decide)) _,fun x hx=>(h.rg x hx).cell hw (by decide) _ _,aI h.gn (bM h.gn hw (by decide)) _⟩
def RS (o:cO):Prop:=cW o=0→∀{w W:ο} {lo g:Nat} {A:Option Κ} {n c:Nat} {Vs:List VC} {B:Option Κ} {m k:Nat} {Es:List EC} {C:Option Κ} {r rc:Nat} {G:List Gn},fH w lo g A n c Vs B m k Es C r rc G W→il (Vs.map vS,Es,G)→Ζ η 68 #[υ (ζ ⟨g,0,ε⟩),φ (aa o).toArray] W (mj w W lo g (bO (Vs.map vS,Es,G) o))
section
variable {W:ο} {A:Option Κ} {n c:Nat} {Vs:List VC} {B:Option Κ} {m k:Nat} {Es:List EC} {C:Option Κ} {r rc:Nat} {G:List Gn}
theorem JQ (h:aO W A n c Vs B m k Es) (hg:aS W W.heap.size 6 C r rc (ao cj G)) (hS:il (Vs.map vS,Es,G)) (PA:Option Κ) (pn pc:Nat) (L:List cO) (hL:aS W W.heap.size 20 PA pn pc (ao aa L)) (MV:pn≤1000) (ho:∀o∈L,cW o=0) (PJ:∀o∈L,RS o):
 Ζ η 44 #[φ #[γ A n c,γ B m k,γ C r rc],γ PA pn pc] W (ti W (hY (Vs.map vS,Es,G) L)):=by
 have lX:Vs.length=n:=h.v.rlen aN (by decide);have qJ:Es.length=m:=h.e.rlen cM (by decide);have Hh:G.length=r:=hg.rlen bU (by decide);have hn:n≤1000:=by have:=hS.v24;rw[List.length_map] at this;omega
 have hm:m≤1000:=by have h1:Es.length≤40:=hS.e40;omega
 have hr:r≤1000:=by have h1:G.length≤400:=hS.g400;omega
 have tQ:∀x∈Vs,x.2.1.2.1≤1000000:=fun x hx=>by
  have h1:=hS.short (vS x) (List.mem_map.2 ⟨x,hx,rfl⟩);have h2:x.2.1.2.2.2.length=x.2.1.2.1:=(h.r x hx).2.dlen;have h3:x.2.1.2.2.2.length≤80:=h1;omega
 have sw:L.length=pn:=hL.rlen cP (by decide);have jn:σ W.heap.size W ((W.alloc (δ #[γ A n c,γ B m k,γ C r rc] 28)).alloc (δ #[γ ε 0 0,γ ε 0 0,γ ε 0 0] 28)):=aF (ax W _) _;have HC:Hid (∀X,σ W.heap.size W X→Ζ η 55 #[φ #[γ A n c,γ B m k,γ C r rc]] X fun e w'=>∃A' c' B' k' C' p9 Ws,e=.returned (φ #[γ A' n c',γ B' m k',γ C' r p9])∧wY w' X.heap.size A' n c' Ws B' m k' Es C' r p9 G∧Ws.map vS=Vs.map vS∧σ X.heap.size X w'):=qh (fun X hX=>Bd (h.below hX) (hg.bl hX) hn hm hr tQ);have jD:=qh hL;have uo:=qh hS;have HMo:=qh ho;have HDk:=qh PJ;have S6:=qh sw;have bn:=qh jn;have aR:Hid (Whole ((W.alloc (δ #[γ A n c,γ B m k,γ C r rc] 28)).alloc (δ #[γ ε 0 0,γ ε 0 0,γ ε 0 0] 28)) W.heap.size 28 [γ A n c,γ B m k,γ C r rc]):=qh ((Whole.new_ _ _ [_,_,_]).al _);have wk:Hid (Whole ((W.alloc (δ #[γ A n c,γ B m k,γ C r rc] 28)).alloc (δ #[γ ε 0 0,γ ε 0 0,γ ε 0 0] 28)) (W.heap.size+1) 28 [γ ε 0 0,γ ε 0 0,γ ε 0 0]):=qh (Whole.new2 (by simp));clear h hg hS hL ho PJ sw jn tQ lX qJ Hh;go_enter Tryz.func44,Tryz.ntmps44;go_upto_region 1 with fail
 obtain⟨W0,bJ⟩:=az (((W.alloc (δ #[γ A n c,γ B m k,γ C r rc] 28)).alloc (δ #[γ ε 0 0,γ ε 0 0,γ ε 0 0] 28)));obtain⟨b1,cJ⟩:=az (W.heap.size+1);obtain⟨b0,bS⟩:=az W.heap.size;have L1:Hid (W.heap.size≤b1):=qh (by omega);rw[bJ] at bn aR wk ⊢;rw[cJ] at wk ⊢;rw[bS] at aR ⊢;clear bJ bS cJ;have x0:=aR.out.cell (i:=0) rfl;have x1:=aR.out.cell (i:=1) rfl;have x2:=aR.out.cell (i:=2) rfl
 go_upto_region 2 with (first
  |(go_at_call 55
    refine(HC.out _ bn.out).mono ?_
    rintro e w5 ⟨A5,c5,B5,k5,C5,S7,Ws,rfl,VB,Jd,fM⟩;have sm:=qh VB;have zI:=qh Jd;have js:=qh fM;have SF:=qh (wk.out.bl fM);clear VB Jd fM x0 x1 x2 aR wk HC))
 have HT:Hid (fH W W0.heap.size w5.heap.size A5 n c5 Ws B5 m k5 Es C5 r S7 G (w5.alloc (δ #[γ A5 n c5,γ B5 m k5,γ C5 r S7] 28))):=qh (by
  have hu:=sm.out.up (ax w5 (δ #[γ A5 n c5,γ B5 m k5,γ C5 r S7] 28));exact⟨Whole.new_ _ _ [_,_,_],hu.v,hu.e,hu.rg,hu.gn,aF (af bn.out js.out) _,bn.out.size,Λ js.out.size (ax w5 _).size,Λ bn.out.size js.out.size⟩)
 have Kj:=qh (SF.out.al (δ #[γ A5 n c5,γ B5 m k5,γ C5 r S7] 28));have Ng:Hid (b1≠w5.heap.size):=qh (by have:=SF.out.lt;omega);obtain⟨w0,Oi⟩:=az (w5.alloc (δ #[γ A5 n c5,γ B5 m k5,γ C5 r S7] 28));obtain⟨g,gg⟩:=az w5.heap.size;obtain⟨lo,xK⟩:=az W0.heap.size;rw[Oi] at HT Kj ⊢;rw[gg] at HT Ng ⊢;rw[xK] at HT;have HO:Hid (il (Ws.map vS,Es,G)):=qh (by rw[zI.out];exact uo.out);have HA:Hid (hY (Vs.map vS,Es,G) L=hY (Ws.map vS,Es,G) (L.drop 0)):=qh (by rw[zI.out];rfl);clear Oi gg xK sm js SF bn zI;go_wp2;go_loopw [14] (fun i wr=>∃(j:Nat) (A:Option Κ) (n c:Nat) (Vq:List VC) (B:Option Κ) (m k:Nat) (PU:List EC) (C:Option Κ) (r rc:Nat) (Gq:List Gn),j≤pn∧i=J (j:Int)∧Hid (fH W lo g A n c Vq B m k PU C r rc Gq wr)∧Hid (il (Vq.map vS,PU,Gq))∧Hid (hY (Vs.map vS,Es,G) L=hY (Vq.map vS,PU,Gq) (L.drop j))∧Hid (bc g w0 wr)) (fun i _=>pn - (intOf i).toNat)
 case atStart=>exact⟨0,A5,n,c5,Ws,B5,m,k5,Es,C5,r,S7,G,Jas _,rfl,HT,HO,HA,qh (bc.refl g _)⟩
 case round=>
  clear HT HO HA;obtain⟨j,A,n,c,Vq,B,m,k,PU,C,r,rc,Gq,hj,rfl,HT,HO,HA,HK⟩:=hrel;have KV:=qh (HK.out.w _ _ _ Kj.out Ng.out (by decide) (by decide) (by decide));have Ll:=S6.out
  by_cases eS:j<pn
  ·have wz:L[j]? =ζ (L[j]'(by omega)):=θ _;obtain⟨o,go⟩:=az (L[j]'(by omega));rw[go] at wz;have HKo:=qh wz;have HMm:Hid (cW o=0):=qh (HMo.out o (ω wz));have Xm:Hid (RS o):=qh (HDk.out o (ω wz));obtain⟨b,off,rfl,bZ,bD⟩:=(jD.out.bl HT.out.below).place cP (by decide) (by omega);have HP:=qh (bD j o wz);clear go wz bD bZ Ll;obtain⟨⟨T,x⟩,gk⟩:∃z,bO (Vq.map vS,PU,Gq) o=z:=⟨_,rfl⟩
   have HD:Hid (∀X,fH W lo g A n c Vq B m k PU C r rc Gq X→Ζ η 68 #[υ (ζ ⟨g,0,ε⟩),φ (aa o).toArray] X (mj W X lo g (T,x))):=qh (fun X hX=>gk▸Xm.out HMm.out hX HO.out);have Uh:=qh gk;clear gk;go_upto_region 4 with fail
   refine Jam ?_;refine ag (v:=?_) (ζ 16) rfl (by rfl) ?_ ?_;rotate_left
   ·go_simp;(try with_reducible rfl)
   simp only[ξ,ak,aj,ah];refine ny (ζ 17) rfl (by rfl) 36 (.tmp 16) rfl ⟨b,off+j*20,ε⟩ rfl (aa o) _ HP.out Tryz.underlying36 rfl (by kernel_rfl) ?_;simp only[ξ,ak,aj,ah];refine KZ 8 rfl rfl rfl 36 (.tmp 17) rfl rfl #[J 0,J 0,J 0,J 0,J 0,J 0,J 0,J 0,J 0,J 0,J 0,J 0,J 0,J 0,J 0,J 0,J 0,Β ρ,.string ⟨#[]⟩,J 0] ?_ (aa o).toArray (by simp) rfl (by kernel_rfl) rfl (sZ o) ?_
   ·go_simp;(try with_reducible rfl)
   simp only[ξ,ak,aj,ah];have YI:=qh (HT.out.al (δ (aa o).toArray 36));have ss:=qh (HK.out.trans (bc.of_below (ax wr (δ (aa o).toArray 36))));have HN:Hid (Whole (wr.alloc (δ (aa o).toArray 36)) wr.heap.size 36 (aa o)):=qh (Whole.new_ _ _ _);obtain⟨W2,eO⟩:=az (wr.alloc (δ (aa o).toArray 36));obtain⟨g2,pK⟩:=az wr.heap.size;rw[eO] at YI ss HN ⊢;rw[pK] at HN ⊢;clear eO pK HT HK KV HP;go_upto_region 5 with fail
   refine Jam ?_;refine bh (ζ 18) rfl (by rfl) 36 (.tmp 8) rfl g2 rfl 36 (aa o) _ HN.out Tryz.underlying36 rfl (by kernel_rfl) ?_;simp only[ξ,ak,aj,ah];go_wp2_with fail
   refine(HD.out _ YI.out).mono ?_
   rintro e w3 ⟨rfl,bw,Np,OX⟩;have cY:=qh bw;have DK:=qh (ss.out.trans Np);clear bw Np YI ss HN HD
   by_cases hx:x=0
   ·subst hx;obtain⟨A',n',c',V',B',m',k',E',C',r',p9,G',xb,Fp⟩:=OX rfl;have HT3:=qh xb
    have j0:Hid (il (V'.map vS,E',G')):=qh (by
     have:=HO.out.kind HMm.out
     rw[Uh.out] at this;rw[Fp];exact this)
    have HA3:Hid (hY (Vs.map vS,Es,G) L=hY (V'.map vS,E',G') (L.drop (j+1))):=qh (by
     have:=xQ HA.out HKo.out (by rw[Uh.out])
     rw[Uh.out] at this;rw[Fp];exact this)
    clear xb Fp OX;go_wp2;go_roundw
    case rel=>exact⟨j+1,_,_,_,_,_,_,_,_,_,_,_,_,by omega,by go_num,HT3,j0,HA3,DK⟩
    case measure=>simp[intOf];omega
   ·have q:(x==0)=ρ:=by simpa using hx
    have q':(x !=0)=τ:=by simpa using hx
    have pg:Hid (hY (Vs.map vS,Es,G) L=(cC,x)):=qh (by
     have:=xt HA.out HKo.out (by rw[Uh.out];exact hx)
     rw[Uh.out] at this;exact this)
    have sy:=qh hx;have qk:=qh (DK.out.w _ _ _ Kj.out Ng.out (by decide) (by decide) (by decide));have z0:=qk.out.cell (i:=0) rfl;have z1:=qk.out.cell (i:=1) rfl;have z2:=qk.out.cell (i:=2) rfl;have XG:=qk.out.free 0;have Xp:=qk.out.free 1;have X3:=qk.out.free 2;clear hx OX DK;go_wp2;exact oS rfl b1 rfl (((qk.out.set_ 0 (γ ε 0 0)).set_ 1 (γ ε 0 0)).set_ 2 (γ ε 0 0)) Tryz.underlying28 rfl (by kernel_rfl) _ rfl rfl (by rw[pg.out];exact⟨(((cY.out.setCell (p:=⟨b1,0,ε⟩) L1.out (γ ε 0 0)).setCell (p:=⟨b1,1,ε⟩) L1.out (γ ε 0 0)).setCell (p:=⟨b1,2,ε⟩) L1.out (γ ε 0 0)),.inr ⟨sy.out,rfl⟩⟩)
  ·obtain rfl:j=pn:=by omega
   have pg:Hid (hY (Vs.map vS,Es,G) L=((Vq.map vS,PU,Gq),0)):=qh (by
    have:=HA.out
    rw[Jak (by omega)] at this;exact this)
   have s0:=HT.out.s.cell (i:=0) rfl;have s1:=HT.out.s.cell (i:=1) rfl;have s2:=HT.out.s.cell (i:=2) rfl;have ng:g≠b1:=fun e=>Ng.out e.symm
   have z0:=KV.out.cell (i:=0) rfl;have z1:=KV.out.cell (i:=1) rfl;have z2:=KV.out.cell (i:=2) rfl;have XG:=KV.out.free 0;have Xp:=KV.out.free 1;have X3:=KV.out.free 2;have HSo:=qh (((HT.out.so.cellT KV.out 0 (γ A n c)).cellT (KV.out.set_ 0 (γ A n c)) 1 (γ B m k)).cellT ((KV.out.set_ 0 (γ A n c)).set_ 1 (γ B m k)) 2 (γ C r rc));clear Ll;go_wp2;exact oS rfl b1 rfl (((KV.out.set_ 0 (γ A n c)).set_ 1 (γ B m k)).set_ 2 (γ C r rc)) Tryz.underlying28 rfl (by kernel_rfl) _ rfl rfl (by rw[pg.out];exact⟨(((HT.out.below.setCell (p:=⟨b1,0,ε⟩) L1.out (γ A n c)).setCell (p:=⟨b1,1,ε⟩) L1.out (γ B m k)).setCell (p:=⟨b1,2,ε⟩) L1.out (γ C r rc)),.inl ⟨rfl,A,n,c,Vq,B,m,k,PU,C,r,rc,Gq,rfl,HSo.out,rfl⟩⟩)
end
theorem Ju {S:SS} {o:cO} (h:¬(bO S o).2=0):(bO S o).1=cC:=by
 revert h;unfold bO jk fX jN iJ gS fz setS
 repeat' (first|split|(intro h;first|rfl|exact absurd rfl h)|dsimp only)
theorem NZ (S:SS) (o:cO):hY S [o]=bO S o:=by
 show(if (bO S o).2=0 then((bO S o).1,0) else(cC,(bO S o).2))=_
 by_cases h:(bO S o).2=0
 ·rw[if_pos h];exact Prod.ext rfl h.symm
 ·rw[if_neg h];exact Prod.ext (Ju h).symm rfl
theorem wY.lo_ {W:ο} {lo lo':Nat} {A:Option Κ} {n c:Nat} {Vs:List VC} {B:Option Κ} {m k:Nat} {Es:List EC} {C:Option Κ} {r rc:Nat} {G:List Gn} (h:wY W lo A n c Vs B m k Es C r rc G) (hl:lo'≤lo):wY W lo' A n c Vs B m k Es C r rc G:=
 ⟨qT h.v hl,qT h.e hl,h.rg,qT h.gn hl⟩
theorem wY.dg {W:ο} {lo:Nat} {A:Option Κ} {n c:Nat} {Vs:List VC} {B:Option Κ} {m k:Nat} {Es:List EC} {C:Option Κ} {r rc:Nat} {G:List Gn} (h:wY W lo A n c Vs B m k Es C r rc G):aO W A n c Vs B m k Es:=
 ⟨bk h.v,bk h.e,fun x hx=>⟨(h.rg x hx).1,(h.rg x hx).2.1⟩⟩
theorem xS:∀{L:List cO},fG L=0→∀o∈L,cW o=0
 |[],_,_,ho=>by cases ho
 |u::L,h,o,ho=>by
  have h1:(if cW u=0 then fG L else cW u)=0:=h
  by_cases q:cW u=0
  ·rw[if_pos q] at h1;rcases List.mem_cons.1 ho with rfl|ho
   ·exact q
   ·exact xS h1 o ho
  ·rw[if_neg q] at h1;exact absurd h1 q
theorem AQ {L:List cO} (h:iS L=0):∀o∈L,cW o=0:=by
 unfold iS at h;split at h
 ·exact absurd h (by decide)
 ·exact xS h
theorem uw (o:cO):ao aa [o]=aa o:=by simp[ao]
section
variable {W:ο} {A:Option Κ} {n c:Nat} {Vs:List VC} {B:Option Κ} {m k:Nat} {Es:List EC} {C:Option Κ} {r rc:Nat} {G:List Gn}
theorem xX (h:aO W A n c Vs B m k Es) (hg:aS W W.heap.size 6 C r rc (ao cj G)) (hS:il (Vs.map vS,Es,G)) (PA:Option Κ) (pn pc:Nat) (L:List cO) (hL:aS W W.heap.size 20 PA pn pc (ao aa L)) (MV:pn≤maxLen) (PJ:∀o∈L,RS o):
 Ζ η 18 #[φ #[γ A n c,γ B m k,γ C r rc],φ #[γ PA pn pc]] W (ti W (fS (Vs.map vS,Es,G) L)):=by
 have sw:L.length=pn:=hL.rlen cP (by decide);have HM:Hid (∀X,σ W.heap.size W X→Ζ η 54 #[φ #[γ PA pn pc]] X fun e w'=>e=.returned (J (iS L))∧σ X.heap.size X w'):=qh (fun X hX=>zB PA pn pc L X (hL.bl hX) MV)
 have HD:Hid (iS L=0→∀X,σ W.heap.size W X→Ζ η 44 #[φ #[γ A n c,γ B m k,γ C r rc],γ PA pn pc] X (ti X (hY (Vs.map vS,Es,G) L))):=qh (fun h0 X hX=>by
  have h6:pn≤6:=by
   by_cases q:L.length<1∨6<L.length
   ·unfold iS at h0;rw[if_pos q] at h0;exact absurd h0 (by decide)
   ·omega
  exact JQ (h.below hX) (hg.bl hX) hS PA pn pc L (hL.bl hX) (by omega) (AQ h0) PJ)
 clear h hg hS hL MV PJ sw;go_enter Tryz.func18,Tryz.ntmps18;go_upto_region 1 with fail
 obtain⟨W0,b0,b1,b2,bJ,bS,cJ,dA,aR,aQ,bj,bn,-,-,j4,-,fD,-,a8,kY,mJ,ni⟩:=jm W 28 [γ A n c,γ B m k,γ C r rc] 49 [γ PA pn pc] 28 [γ ε 0 0,γ ε 0 0,γ ε 0 0];rw[bJ,dA,cJ,bS];clear bJ bS cJ dA;have x1:=aQ.out.cell (i:=0) rfl;obtain⟨x,gx⟩:=az (iS L);rw[gx] at HM HD;have GX:=qh gx;clear gx
 go_upto_region 2 with (first
  |(go_at_call 54
    refine(HM.out _ bn.out).mono ?_
    rintro e w2 ⟨rfl,ar⟩;have cL:=qh (af bn.out ar);have gG:=qh (aR.out.bl ar);have gW:=qh (aQ.out.bl ar);have fh:=qh (bj.out.bl ar);clear ar x1 aR aQ bj bn HM))
 by_cases hx:x=0
 ·subst hx;have HR:Hid (fS (Vs.map vS,Es,G) L=hY (Vs.map vS,Es,G) L):=qh (by unfold fS;rw[if_pos GX.out]);have tC:=qh (HD.out rfl _ cL.out);have x0:=gG.out.cell (i:=0) rfl;have x1:=gG.out.cell (i:=1) rfl;have x2:=gG.out.cell (i:=2) rfl;have x3:=gW.out.cell (i:=0) rfl;clear GX HD;go_wp2_with fail
  refine tC.out.mono ?_;clear x0 x1 x2 x3;rintro e w3 ⟨bw,h3⟩;have cY:=qh (af cL.out bw);have qk:=qh (fh.out.bl bw);have z0:=qk.out.cell (i:=0) rfl;have RL:=qk.out.free 0;have z1:=qk.out.cell (i:=1) rfl;have Qo:=qk.out.free 1;have z2:=qk.out.cell (i:=2) rfl;have RF:=qk.out.free 2;rcases h3 with⟨hx,A',n',c',V',B',m',k',E',C',r',p9,G',rfl,xb,Fp⟩|⟨hx,rfl⟩
  ·have ye:=qh (xb.lo_ (lo':=W.heap.size) cL.out.size);have sC:=qh Fp;have ff:=qh hx;clear xb Fp hx bw;go_wp2;exact oS rfl b2 rfl (((qk.out.set_ 0 (γ A' n' c')).set_ 1 (γ B' m' k')).set_ 2 (γ C' r' p9)) Tryz.underlying28 rfl (by kernel_rfl) _ rfl rfl (by rw[HR.out];exact⟨(((cY.out.setCell (p:=⟨b2,0,ε⟩) a8.out (γ A' n' c')).setCell (p:=⟨b2,1,ε⟩) a8.out (γ B' m' k')).setCell (p:=⟨b2,2,ε⟩) a8.out (γ C' r' p9)),.inl ⟨ff.out,A',n',c',V',B',m',k',E',C',r',p9,G',rfl,(((ye.out.cellT qk.out 0 (γ A' n' c')).cellT (qk.out.set_ 0 (γ A' n' c')) 1 (γ B' m' k')).cellT ((qk.out.set_ 0 (γ A' n' c')).set_ 1 (γ B' m' k')) 2 (γ C' r' p9)),sC.out⟩⟩)
  ·have ff:=qh hx;obtain⟨x,gx⟩:=az ((hY (Vs.map vS,Es,G) L).2);rw[gx];have GX:=qh gx;clear hx bw gx;go_wp2;exact oS rfl b2 rfl (((qk.out.set_ 0 (γ ε 0 0)).set_ 1 (γ ε 0 0)).set_ 2 (γ ε 0 0)) Tryz.underlying28 rfl (by kernel_rfl) _ rfl rfl (by rw[HR.out];exact⟨(((cY.out.setCell (p:=⟨b2,0,ε⟩) a8.out (γ ε 0 0)).setCell (p:=⟨b2,1,ε⟩) a8.out (γ ε 0 0)).setCell (p:=⟨b2,2,ε⟩) a8.out (γ ε 0 0)),.inr ⟨ff.out,by rw[GX.out];rfl⟩⟩)
 ·have q:(x==0)=ρ:=by simpa using hx
  have q':(x !=0)=τ:=by simpa using hx
  have HR:Hid (fS (Vs.map vS,Es,G) L=(cC,x)):=qh (by unfold fS;rw[GX.out,if_neg hx]);have HX:=qh hx;have z0:=fh.out.cell (i:=0) rfl;have RL:=fh.out.free 0;have z1:=fh.out.cell (i:=1) rfl;have Qo:=fh.out.free 1;have z2:=fh.out.cell (i:=2) rfl;have RF:=fh.out.free 2;clear hx GX HD;go_wp2;exact oS rfl b2 rfl (((fh.out.set_ 0 (γ ε 0 0)).set_ 1 (γ ε 0 0)).set_ 2 (γ ε 0 0)) Tryz.underlying28 rfl (by kernel_rfl) _ rfl rfl (by rw[HR.out];exact⟨(((cL.out.setCell (p:=⟨b2,0,ε⟩) a8.out (γ ε 0 0)).setCell (p:=⟨b2,1,ε⟩) a8.out (γ ε 0 0)).setCell (p:=⟨b2,2,ε⟩) a8.out (γ ε 0 0)),.inr ⟨HX.out,rfl⟩⟩)
theorem yS (h:aO W A n c Vs B m k Es) (hg:aS W W.heap.size 6 C r rc (ao cj G)) (hS:il (Vs.map vS,Es,G)) (o:cO) (PJ:RS o):
 Ζ η 14 #[φ #[γ A n c,γ B m k,γ C r rc],φ (aa o).toArray] W (ti W (lM (Vs.map vS,Es,G) o)):=by
 have HD:Hid (cW o=0→∀X,σ W.heap.size W X→∀g,Whole X g 36 (aa o)→Ζ η 44 #[φ #[γ A n c,γ B m k,γ C r rc],γ (ζ ⟨g,0,ε⟩) 1 1] X (ti X (bO (Vs.map vS,Es,G) o))):=qh (fun h0 X hX g hw=>by
  rw[←NZ];exact JQ (h.below hX) (hg.bl hX) hS _ 1 1 [o] (by rw[uw];exact aS.of_whole hw rfl) (by decide) (fun u hu=>by obtain rfl:=Jao.1 hu;exact h0) (fun u hu=>by obtain rfl:=Jao.1 hu;exact PJ))
 clear h hg hS PJ;go_enter Tryz.func14,Tryz.ntmps14;go_upto_region 1 with fail
 obtain⟨W0,b0,b1,b2,bJ,bS,cJ,dA,aR,aQ,bj,bn,-,-,j4,-,fD,-,a8,kY,mJ,ni⟩:=jm W 28 [γ A n c,γ B m k,γ C r rc] 36 (aa o) 28 [γ ε 0 0,γ ε 0 0,γ ε 0 0];rw[bJ,dA,cJ,bS];clear bJ bS cJ dA;obtain⟨x,gx⟩:=az (cW o);have HM:Hid (∀X,Ζ η 43 #[φ (aa o).toArray] X fun e w'=>e=.returned (J x)∧σ X.heap.size X w'):=qh (fun X=>gx▸xv o X);rw[gx] at HD;have GX:=qh gx;clear gx;refine Jam ?_;refine bh (ζ 7) rfl (by rfl) 36 (.tmp 3) rfl b1 rfl 36 (aa o) _ aQ.out Tryz.underlying36 rfl (by kernel_rfl) ?_;simp only[ξ,ak,aj,ah]
 go_upto_region 2 with (first
  |(go_at_call 43
    refine(HM.out _).mono ?_
    rintro e w2 ⟨rfl,ar⟩;have cL:=qh (af bn.out ar);have gG:=qh (aR.out.bl ar);have gW:=qh (aQ.out.bl ar);have fh:=qh (bj.out.bl ar);clear ar aR aQ bj bn HM))
 by_cases hx:x=0
 ·subst hx;have HR:Hid (lM (Vs.map vS,Es,G) o=bO (Vs.map vS,Es,G) o):=qh (by unfold lM;rw[if_pos GX.out]);clear GX;go_upto_region 4 with fail
  refine Jam ?_;refine bh (ζ 13) rfl (by rfl) 28 (.tmp 2) rfl b0 rfl 28 [γ A n c,γ B m k,γ C r rc] _ gG.out Tryz.underlying28 rfl (by kernel_rfl) ?_;simp only[ξ,ak,aj,ah];refine bh (ζ 14) rfl (by rfl) 36 (.tmp 3) rfl b1 rfl 36 (aa o) _ gW.out Tryz.underlying36 rfl (by kernel_rfl) ?_;simp only[ξ,ak,aj,ah];refine cZ (ζ 15) rfl (by rfl) 47 36 1 #[(0,.tmp 14)] (by rfl) Tryz.underlying47 (aa o).toArray (by kernel_rfl) ?_;simp only[ξ,ak,aj,ah];have tC:=qh (HD.out rfl (w2.alloc (δ (aa o).toArray 36)) (aF cL.out _) _ (Whole.new_ _ _ _));have CU:=qh (fh.out.al (δ (aa o).toArray 36));have R7:=qh (aF cL.out (δ (aa o).toArray 36));obtain⟨w4,IY⟩:=az (w2.alloc (δ (aa o).toArray 36));rw[IY] at tC CU R7 ⊢;clear IY HD;go_wp2_with fail
  refine tC.out.mono ?_;rintro e w3 ⟨bw,h3⟩;have cY:=qh (af R7.out bw);have qk:=qh (CU.out.bl bw);have z0:=qk.out.cell (i:=0) rfl;have RL:=qk.out.free 0;have z1:=qk.out.cell (i:=1) rfl;have Qo:=qk.out.free 1;have z2:=qk.out.cell (i:=2) rfl;have RF:=qk.out.free 2;rcases h3 with⟨hx,A',n',c',V',B',m',k',E',C',r',p9,G',rfl,xb,Fp⟩|⟨hx,rfl⟩
  ·have ye:=qh (xb.lo_ (lo':=W.heap.size) R7.out.size);have sC:=qh Fp;have ff:=qh hx;clear xb Fp hx bw;go_wp2;exact oS rfl b2 rfl (((qk.out.set_ 0 (γ A' n' c')).set_ 1 (γ B' m' k')).set_ 2 (γ C' r' p9)) Tryz.underlying28 rfl (by kernel_rfl) _ rfl rfl (by rw[HR.out];exact⟨(((cY.out.setCell (p:=⟨b2,0,ε⟩) a8.out (γ A' n' c')).setCell (p:=⟨b2,1,ε⟩) a8.out (γ B' m' k')).setCell (p:=⟨b2,2,ε⟩) a8.out (γ C' r' p9)),.inl ⟨ff.out,A',n',c',V',B',m',k',E',C',r',p9,G',rfl,(((ye.out.cellT qk.out 0 (γ A' n' c')).cellT (qk.out.set_ 0 (γ A' n' c')) 1 (γ B' m' k')).cellT ((qk.out.set_ 0 (γ A' n' c')).set_ 1 (γ B' m' k')) 2 (γ C' r' p9)),sC.out⟩⟩)
  ·have ff:=qh hx;obtain⟨x,gx⟩:=az ((bO (Vs.map vS,Es,G) o).2);rw[gx];have GX:=qh gx;clear hx bw gx;go_wp2;exact oS rfl b2 rfl (((qk.out.set_ 0 (γ ε 0 0)).set_ 1 (γ ε 0 0)).set_ 2 (γ ε 0 0)) Tryz.underlying28 rfl (by kernel_rfl) _ rfl rfl (by rw[HR.out];exact⟨(((cY.out.setCell (p:=⟨b2,0,ε⟩) a8.out (γ ε 0 0)).setCell (p:=⟨b2,1,ε⟩) a8.out (γ ε 0 0)).setCell (p:=⟨b2,2,ε⟩) a8.out (γ ε 0 0)),.inr ⟨ff.out,by rw[GX.out];rfl⟩⟩)
 ·have q:(x==0)=ρ:=by simpa using hx
  have q':(x !=0)=τ:=by simpa using hx
  have HR:Hid (lM (Vs.map vS,Es,G) o=(cC,x)):=qh (by unfold lM;rw[GX.out,if_neg hx]);have HX:=qh hx;have z0:=fh.out.cell (i:=0) rfl;have RL:=fh.out.free 0;have z1:=fh.out.cell (i:=1) rfl;have Qo:=fh.out.free 1;have z2:=fh.out.cell (i:=2) rfl;have RF:=fh.out.free 2;clear hx GX HD;go_wp2;exact oS rfl b2 rfl (((fh.out.set_ 0 (γ ε 0 0)).set_ 1 (γ ε 0 0)).set_ 2 (γ ε 0 0)) Tryz.underlying28 rfl (by kernel_rfl) _ rfl rfl (by rw[HR.out];exact⟨(((cL.out.setCell (p:=⟨b2,0,ε⟩) a8.out (γ ε 0 0)).setCell (p:=⟨b2,1,ε⟩) a8.out (γ ε 0 0)).setCell (p:=⟨b2,2,ε⟩) a8.out (γ ε 0 0)),.inr ⟨HX.out,rfl⟩⟩)
end
section
variable {W:ο} {A:Option Κ} {n c:Nat} {Vs:List VC} {B:Option Κ} {m k:Nat} {Es:List EC} {C:Option Κ} {r rc:Nat} {G:List Gn}
theorem Ab (W:ο):Ζ η 17 #[] W fun e w'=>e=.returned (φ #[γ ε 0 0,γ ε 0 0,γ ε 0 0])∧σ W.heap.size W w':=by
 go_enter Tryz.func17,Tryz.ntmps17;go_wp2;exact bz rfl W.heap.size rfl (Whole.new_ W 28 [γ ε 0 0,γ ε 0 0,γ ε 0 0]) Tryz.underlying28 rfl (by kernel_rfl) rfl ⟨rfl,ax _ _⟩
end
theorem FX (A:Option Κ) (n c:Nat) (L:List cO) (W:ο) (h:aS W W.heap.size 20 A n c (ao aa L)) (hn:n≤maxLen):
 Ζ η 19 #[φ #[γ A n c]] W fun e w'=>∃n',e=.returned (φ #[γ A n' c])∧aS w' w'.heap.size 20 A n' c (ao aa (L.take 8))∧n'≤8∧σ W.heap.size W w':=by
 have hl:L.length=n:=h.rlen cP (by decide);have hle:=h.le;have hH:=qh h;clear h;go_enter Tryz.func19,Tryz.ntmps19;go_upto_region 1 with fail
 obtain⟨W0,b0,b1,bJ,bS,cJ,aR,aQ,bn,-,-,j4,-,fD,kY⟩:=D8 W 49 [γ A n c] 49 [γ ε 0 0];rw[bJ,cJ,bS];clear bJ bS cJ;have x0:=aR.out.cell (i:=0) rfl
 by_cases h8:8<n
 ·have q1:(8:Int)<(n:Int):=by omega
  have h8c:8≤c:=by omega
  have HR:Hid (aS W W.heap.size 20 A 8 c (ao aa (L.take 8))):=qh (by
   have:=hH.out.take_ 8 (by omega)
   rwa [←jy aa cP] at this)
  clear hH hl hle;go_upto_region 2 with fail
  refine Jam ?_;refine ag (v:=?_) (ζ 7) rfl (by rfl) ?_ ?_;rotate_left
  ·go_simp;(try with_reducible rfl)
  simp only[ξ,ak,aj,ah];refine ag (v:=?_) (ζ 8) rfl (by rfl) ?_ ?_;rotate_left
  ·go_simp;(try with_reducible rfl)
  simp only[ξ,ak,aj,ah];refine ag (ζ 9) rfl (by rfl) (tF 47 36 (.tmp 8) (.const (J 8)) rfl Tryz.underlying47 (s:=20) (by kernel_rfl) rfl (k:=8) rfl h8c) ?_;simp only[ξ,ak,aj,ah];have z0:=aQ.out.cell (i:=0) rfl;have y0:=aQ.out.free 0;go_wp2;have hb:=bn.out.setCell (p:=⟨b1,0,ε⟩) fD.out (γ A 8 c);exact bz rfl b1 rfl (aQ.out.set_ 0 (γ A 8 c)) Tryz.underlying49 rfl (by kernel_rfl) rfl ⟨8,rfl,HR.out.bl hb,by decide,hb⟩
 ·have q1:¬(8:Int)<(n:Int):=by omega
  have HR:Hid (aS W W.heap.size 20 A n c (ao aa (L.take 8))):=qh (by rw[List.take_of_length_le (by omega)];exact hH.out);clear hH hl hle;have z0:=aQ.out.cell (i:=0) rfl;have y0:=aQ.out.free 0;have n01:=kY.out;go_wp2;have hb:=bn.out.setCell (p:=⟨b1,0,ε⟩) fD.out (γ A n c);exact bz rfl b1 rfl (aQ.out.set_ 0 (γ A n c)) Tryz.underlying49 rfl (by kernel_rfl) rfl ⟨n,rfl,HR.out.bl hb,by omega,hb⟩
def mv (x:Gn):Bool→List Gn→List Gn
 |p,[]=>if p=τ then[] else[x]
 |p,y::G=>(if p=ρ∧cB x y≤0 then[x] else[])++((if y.1=x.1 then[] else[y])++mv x (p||decide (cB x y≤0)) G)
theorem zH {x:Gn}:∀{G:List Gn},(∀y∈G,¬y.1=x.1)→mv x τ G=G
 |[],_=>rfl
 |y::G,h=>by
  show(if τ=ρ∧_ then[x] else[])++((if y.1=x.1 then[] else[y])++mv x (τ||_) G)=y::G
  rw[if_neg (by simp),if_neg (h y List.mem_cons_self),Bool.true_or,zH (fun z hz=>h z (List.mem_cons_of_mem _ hz))];rfl
theorem E3 {x:Gn}:∀{G:List Gn},fi G→mv x ρ G=nX G x
 |[],_=>rfl
 |y::G,h=>by
  have hp:=qF h;have hc:=List.pairwise_cons.1 hp;have hn:=nT y x
  have far:cB y x≥0→∀z∈G,¬z.1=x.1:=fun h0 z hz e=>by
   have h1:=hc.1 z hz;have h2:cB y z=cB y x:=by unfold cB;rw[e]
   omega
  show(if ρ=ρ∧cB x y≤0 then[x] else[])++((if y.1=x.1 then[] else[y])++mv x (ρ||decide (cB x y≤0)) G)=if cB y x<0 then y::nX G x else if cB y x=0 then x::G else x::y::G
  by_cases h1:cB y x<0
  ·have bQ:¬y.1=x.1:=fun e=>by have:=(hD y x).2 e;omega
   rw[if_pos h1,if_neg (by omega),if_neg bQ,decide_eq_false (by omega),Bool.false_or,E3 (ns h)];rfl
  ·rw[if_neg h1,if_pos ⟨rfl,by omega⟩,decide_eq_true (by omega),Bool.or_true,zH (far (by omega))]
   by_cases h2:cB y x=0
   ·rw[if_pos h2,if_pos ((hD y x).1 h2)];rfl
   ·rw[if_neg h2,if_neg (fun e=>h2 ((hD y x).2 e))];rfl
theorem Gg (G:List Gn) (x:Gn):(iq G x.1).2=G.any (fun y=>decide (y.1=x.1)):=by
 induction G with
 |nil=>rfl
 |cons y G ih=>
  rw[iq,List.any_cons]
  by_cases e:y.1=x.1
  ·rw[if_pos e,decide_eq_true e];rfl
  ·rw[if_neg e,decide_eq_false e,Bool.false_or,ih]
theorem LQ {w W:ο} {B:Nat} {A:Option Κ} {n c:Nat} {T:List Gn} (fu:Ow w B 98 6 (γ A n c) n (ao cj T) W) (x:Gn) (hn:n≤1000):
 ∃A' c' W',(Builtin.append_ #[26,26] 26 #[γ A n c,γ (ζ ⟨W.heap.size,0,ε⟩) 1 1]).run η (W.alloc (δ (cj x).toArray 98))=.ok (γ A' (n+1) c') W'∧Ow w B 98 6 (γ A' (n+1) c') (n+1) (ao cj (T++[x])) W':=by
 obtain⟨i,hi,nz,j7,kZ⟩:=a6 mG;obtain⟨v',W',bL,ho,-⟩:=Ow.app (P:=η) 26 26 98 i _ 6 48 B Tryz.underlying26 hi nz j7 kZ rfl (by decide) _ _ _ (fu.up (ax W (δ (cj x).toArray 98))) _ _ 1 1 _ (aS.of_whole (Whole.new_ W 98 (cj x)) rfl) (jC x) (by unfold maxLen;omega) (by omega);rw[show ao cj T++cj x=ao cj (T++[x]) by rw[bX];simp[ao]] at ho;obtain⟨A',c',rfl,-⟩:=ho.rds;exact⟨A',c',W',bL,ho⟩
theorem vl (A:Option Κ) (n c:Nat) (G:List Gn) (x:Gn) (w:ο) (h:aS w w.heap.size 6 A n c (ao cj G)) (hn:n≤400) (hr:fi G):
 Ζ η 75 #[γ A n c,φ #[J x.1.1,J x.1.2.1,J x.1.2.2,J x.2.1,J x.2.2.1,J x.2.2.2]] w fun e w'=>∃A' n' c',e=.returned (γ A' n' c')∧aS w' w'.heap.size 6 A' n' c' (ao cj (eA G x))∧σ w.heap.size w w':=by
 have hl:G.length=n:=h.rlen bU (by decide);obtain⟨⟨tq,ok⟩,gf⟩:∃z,iq G x.1=z:=⟨_,rfl⟩
 have Uj:G.any (fun y=>decide (y.1=x.1))=ok:=by rw[←Gg,gf]
 have HF:Hid (∀X,σ w.heap.size w X→Ζ η 101 #[γ A n c,φ #[J x.1.1,J x.1.2.1,J x.1.2.2]] X fun e w'=>e=.returned (Ξ #[φ #[J tq.1,J tq.2.1,J tq.2.2],Β ok])∧σ X.heap.size X w'):=qh (fun X hX=>by
  have:=xu A n c G x.1 X (h.bl hX) (by omega)
  rwa [gf] at this)
 have H:=qh h;have HL:=qh hl;have HR:=qh hr;have Ip:=qh Uj;have kc:Whole (w.alloc (δ #[J x.1.1,J x.1.2.1,J x.1.2.2,J x.2.1,J x.2.2.1,J x.2.2.2] 98)) w.heap.size 98 (cj x):=Whole.new_ w 98 (cj x);have jn:=ax w (δ #[J x.1.1,J x.1.2.1,J x.1.2.2,J x.2.1,J x.2.2.1,J x.2.2.2] 98);clear h hl hr gf Uj;go_enter Tryz.func75,Tryz.ntmps75;go_upto_region 1 with fail
 obtain⟨w0,Oi⟩:=az (w.alloc (δ #[J x.1.1,J x.1.2.1,J x.1.2.2,J x.2.1,J x.2.2.1,J x.2.2.2] 98));obtain⟨b0,bS⟩:=az w.heap.size;rw[Oi] at kc jn ⊢;rw[bS] at kc ⊢;have aR:=qh kc;have bn:=qh jn;clear Oi bS kc jn;have x0:=aR.out.cell (i:=0) rfl;have x1:=aR.out.cell (i:=1) rfl;have x2:=aR.out.cell (i:=2) rfl
 go_upto_region 2 with (first
  |(go_at_call 101
    refine(HF.out _ bn.out).mono ?_
    rintro e w1 ⟨rfl,fe⟩;have iT:=qh (af bn.out fe);have aQ:=qh (aR.out.bl fe);clear fe aR bn x0 x1 x2))
 have cL:=qh (aF iT.out (δ #[J tq.1,J tq.2.1,J tq.2.2] 32));have bj:=qh (aQ.out.al (δ #[J tq.1,J tq.2.1,J tq.2.2] 32));obtain⟨w2,gw2⟩:=az (w1.alloc (δ #[J tq.1,J tq.2.1,J tq.2.2] 32));rw[gw2] at cL bj ⊢;clear gw2 iT aQ HF
 by_cases Em:ok=ρ∧400≤n
 ·obtain⟨rfl,h4⟩:=Em;have q:(400:Int)≤(n:Int):=by omega
  have hA:eA G x=G:=uF Ip.out (by rw[HL.out];exact h4);have HA:=qh hA;clear hA h4;go_wp2;go_ret;exact⟨A,n,c,rfl,by rw[HA.out];exact H.out.bl cL.out,cL.out⟩
 have HA:Hid (eA G x=mv x ρ G):=qh (by
  rw[E3 HR.out];cases hk:ok with
  |false=>
   have e:(G.any fun y=>decide (y.1=x.1))=ρ:=by rw[Ip.out,hk]
   exact uA e (by rw[HL.out];exact fun q=>Em ⟨hk,q⟩)
  |true=>
   have e:(G.any fun y=>decide (y.1=x.1))=τ:=by rw[Ip.out,hk]
   exact s4 e (by rw[HL.out];omega))
 have Ha:ok=τ∨n<400:=by
  cases hk:ok with
  |true=>exact .inl rfl
  |false=>exact .inr (Nat.lt_of_not_le (fun q=>Em ⟨hk,q⟩))
 have q2:ok=ρ→¬(400:Int)≤(n:Int):=fun h=>by
  rcases Ha with h1|h1
  ·rw[h] at h1;cases h1
  ·omega
 have H9:Hid (Ow w2 w2.heap.size 98 6 (γ (ζ ⟨w2.heap.size,0,ε⟩) 0 0) 0 (ao cj []) (w2.alloc (δ #[] 98))):=qh ⟨lL (junk:=[]) (show Whole (w2.alloc (δ #[] 98)) w2.heap.size 98 [] from Whole.new_ _ _ []) (Δ _) rfl (Δ _) (by decide) rfl,ax w2 _,Δ _,by simp⟩;clear Em Ha Ip;go_cut [23] (fun v z=>v=Β ρ∧z=w2)
 case first=>
  cases ok with
  |false=>
   have q3:=q2 rfl;clear q2;go_wp2_with fail
   go_meet;exact⟨rfl,rfl⟩
  |true=>
   clear q2;go_wp2_with fail
   go_meet;exact⟨rfl,rfl⟩
 case rest=>
  obtain⟨rfl,hz⟩:=hcut;clear q2;obtain rfl:w2=wc:=hz.symm;go_upto_region 5 with fail
  obtain⟨g1,Ml⟩:=az w2.heap.size;obtain⟨w3,qK⟩:=az (w2.alloc (δ #[] 98));rw[qK,Ml] at H9;rw[qK,Ml];clear qK;have lD:Hid (mv x ρ G=[]++mv x ρ (G.drop 0)):=qh rfl;have Gg1:=qh Ml;clear Ml;go_upto_region 7 with fail
  go_loopw [7,8,9] (fun vo vp vi wr=>∃(j:Nat) (p:Bool) (A2:Option Κ) (n2 c2:Nat) (T:List Gn),j≤n∧n2≤2*j∧vo=γ A2 n2 c2∧vp=Β p∧vi=J (j:Int)∧Hid (Ow w2 g1 98 6 (γ A2 n2 c2) n2 (ao cj T) wr)∧Hid (mv x ρ G=T++mv x p (G.drop j))) (fun _ _ vi _=>n - (intOf vi).toNat)
  case atStart=>exact⟨0,ρ,_,0,0,[],Jas _,Jas _,rfl,rfl,rfl,H9,lD⟩
  case round=>
   clear H9 lD;obtain⟨j,p,A2,n2,c2,T,hj,Fi,rfl,rfl,rfl,HO,HN⟩:=hrel;obtain⟨wo,dB⟩:=az wr;rw[dB] at HO ⊢;clear dB
   by_cases nF:j<n
   ·have qd:(j:Int)<(n:Int):=by omega
    obtain⟨y,hy⟩:∃y,G[j]? =ζ y:=⟨_,θ (by have:=HL.out;omega)⟩
    have qO:G.drop j=y::G.drop (j+1):=by
     rw[Χ (ν.1 hy).1,(ν.1 hy).2]
    have p7:Hid (mv x ρ G=T++((if p=ρ∧cB x y≤0 then[x] else[])++((if y.1=x.1 then[] else[y])++mv x (p||decide (cB x y≤0)) (G.drop (j+1))))):=qh (by
     have:=HN.out
     rw[qO] at this;exact this)
    obtain⟨bb,off,rfl,bZ,bD⟩:=H.out.place bU (by decide) (by omega);have L0:=qh (by have q:=bD j _ hy 0 _ rfl;simp only[Ν,Jac] at q;exact q);have L1:=qh (by have q:=bD j _ hy 1 _ rfl;simp only[Ν,Jac] at q;exact q);have L2:=qh (by have q:=bD j _ hy 2 _ rfl;simp only[Ν,Jac] at q;exact q);have HP:=qh (bD j _ hy);obtain⟨o,go⟩:=az (cB x y);have HOr:Hid (∀X,Ζ η 56 #[φ #[J x.1.1,J x.1.2.1,J x.1.2.2],φ #[J y.1.1,J y.1.2.1,J y.1.2.2]] X fun e w'=>e=.returned (J o)∧σ X.heap.size X w'):=qh (fun X=>go▸nV x.1.1 x.1.2.1 x.1.2.2 y.1.1 y.1.2.1 y.1.2.2 X);rw[go] at p7;have HW:=qh (af cL.out HO.out.below);have tc:=qh (bj.out.bl HO.out.below);clear hy qO bD go HN;go_upto_region 9 with fail
    go_cut [44] (fun v z=>∃b:Bool,v=Β b∧Hid (b=(!p && decide (o≤0)))∧Hid (σ wo.heap.size wo z))
    case first=>
     cases p with
     |true=>
      refine aw (aT) (by kernel_rfl) ?_;refine aq 0 ?_;refine aq 1 ?_;refine aq 2 ?_;refine bP 3 ?_;refine bP 4 ?_;refine bP 5 ?_;refine bP 6 ?_;refine bP 7 ?_;refine bP 8 ?_;refine bP 9 ?_;refine bP 10 ?_;refine bP 11 ?_;refine aq 12 ?_;refine aG (by kernel_rfl) ?_ _;intro w8 ch;go_wp2;go_meet;exact⟨ρ,rfl,qh rfl,qh (af (ba (Θ _ wo)) ch)⟩
     |false=>
      have BE:=dX (i:=0) tc.out rfl;have Ap:=dX (i:=1) tc.out rfl;have Mb:=dX (i:=2) tc.out rfl;have Xi:∀w',Kept aT wo.drew w'→w'.cell? ⟨bb,off+j*6,ε⟩=ζ (J y.1.1):=fun w' h=>h.nil_cell ((HW.out.cell (p:=⟨bb,off+j*6,ε⟩) bZ).trans L0.out)
      have XZ:∀w',Kept aT wo.drew w'→w'.cell? ⟨bb,off+j*6+1,ε⟩=ζ (J y.1.2.1):=fun w' h=>h.nil_cell ((HW.out.cell (p:=⟨bb,off+j*6+1,ε⟩) bZ).trans L1.out)
      have ly2:∀w',Kept aT wo.drew w'→w'.cell? ⟨bb,off+j*6+2,ε⟩=ζ (J y.1.2.2):=fun w' h=>h.nil_cell ((HW.out.cell (p:=⟨bb,off+j*6+2,ε⟩) bZ).trans L2.out)
      refine aw (aT) (by kernel_rfl) ?_;refine aq 0 ?_;refine aq 1 ?_;refine aq 2 ?_;refine aq 3 ?_;refine aq 4 ?_;refine aq 5 ?_;refine aq 6 ?_;refine aq 7 ?_;refine aq 8 ?_;refine aq 9 ?_;refine bN 10 (hy:=by apply cz;rfl;rotate_left;intro w' aC;exact HOr.out w';intro w';go_simp) (h:=?_);refine aq 11 ?_;refine aq 12 ?_;refine aG (by kernel_rfl) ?_ _;intro w8 ch;go_wp2;go_meet;exact⟨decide (o≤0),rfl,qh (by simp),qh (af (ba (Θ _ wo)) ch)⟩
    case rest=>
     obtain⟨b,rfl,hb,hz⟩:=hcut;have nI:=qh (HO.out.up hz.out);have mK:=qh (tc.out.bl hz.out)
     have JP:Hid (mv x ρ G=(T++if b=τ then[x] else[])++((if y.1=x.1 then[] else[y])++mv x (p||b) (G.drop (j+1)))):=qh (by
      have e:=hb.out;have h:=p7.out;cases p with
      |true=>
       rw[e,h,if_neg (by simp)];simp
      |false=>
       by_cases ho:o≤0
       ·rw[if_pos ⟨rfl,ho⟩] at h;rw[e,h,decide_eq_true ho];simp
       ·rw[if_neg (fun q=>ho q.2)] at h;rw[e,h,decide_eq_false ho];simp)
     clear hz hb p7 HO tc HOr HW;go_upto_if 44 with fail
     go_cut [7,8] (fun vo vp z=>∃(A3:Option Κ) (n3 c3:Nat) (T3:List Gn),vo=γ A3 n3 c3∧vp=Β (p||b)∧n3≤n2+1∧Hid (Ow w2 g1 98 6 (γ A3 n3 c3) n3 (ao cj T3) z)∧Hid (mv x ρ G=T3++((if y.1=x.1 then[] else[y])++mv x (p||b) (G.drop (j+1)))))
     case first=>
      cases b with
      |false=>
       have DP:=JP;go_wp2_with fail
       go_meet;exact⟨A2,n2,c2,T,rfl,by simp,by omega,nI,qh (by have:=DP.out;simpa using this)⟩
      |true=>
       obtain⟨A3,c3,W3,bL,wC⟩:=LQ nI.out x (by omega);have j0:=qh wC;clear wC;go_upto_region 10 with fail
       refine Jam ?_;refine ag (v:=?_) (ζ 45) rfl (by rfl) ?_ ?_;rotate_left
       ·go_simp;(try with_reducible rfl)
       simp only[ξ,ak,aj,ah];refine bh (ζ 46) rfl (by rfl) 98 (.tmp 3) rfl b0 rfl 98 (cj x) _ mK.out Tryz.underlying98 rfl (by kernel_rfl) ?_;simp only[ξ,ak,aj,ah];refine cZ (ζ 47) rfl (by rfl) 26 98 1 #[(0,.tmp 46)] (by rfl) Tryz.underlying26 (cj x).toArray (by kernel_rfl) ?_;simp only[ξ,ak,aj,ah];refine jA (ζ 48) rfl (by rfl) (bV (by rfl) (by rfl) (by rfl) bL) ?_;simp only[ξ,ak,aj,ah];clear bL;have DP:=JP;go_wp2_with fail
       go_meet;exact⟨A3,n2+1,c3,T++[x],rfl,by simp,by omega,j0,qh (by have:=DP.out;simpa using this)⟩
     case rest=>
      obtain⟨A3,n3,c3,T3,rfl,rfl,hn3,kr,ug⟩:=hcut;obtain⟨wo,dB⟩:=az wc;rw[dB] at kr ⊢;clear dB JP nI mK;have HW:=qh (af cL.out kr.out.below);have tc:=qh (bj.out.bl kr.out.below);obtain⟨p2,OR⟩:=az ((p||b));rw[OR] at ug ⊢;clear OR;have hq:∀W,(binOp .neq 32 (φ #[J y.1.1,J y.1.2.1,J y.1.2.2]) (φ #[J x.1.1,J x.1.2.1,J x.1.2.2])).run η W=.ok (Β (!decide (y.1=x.1))) W:=fun W=>kj y.1 x.1 W
      obtain⟨e,ge⟩:=az (decide (y.1=x.1));rw[ge] at hq;have HE:=qh ge;clear ge;have BE:=dX (i:=0) tc.out rfl;have Ap:=dX (i:=1) tc.out rfl;have Mb:=dX (i:=2) tc.out rfl;have Xi:∀w',Kept aT wo.drew w'→w'.cell? ⟨bb,off+j*6,ε⟩=ζ (J y.1.1):=fun w' h=>h.nil_cell ((HW.out.cell (p:=⟨bb,off+j*6,ε⟩) bZ).trans L0.out)
      have XZ:∀w',Kept aT wo.drew w'→w'.cell? ⟨bb,off+j*6+1,ε⟩=ζ (J y.1.2.1):=fun w' h=>h.nil_cell ((HW.out.cell (p:=⟨bb,off+j*6+1,ε⟩) bZ).trans L1.out)
      have ly2:∀w',Kept aT wo.drew w'→w'.cell? ⟨bb,off+j*6+2,ε⟩=ζ (J y.1.2.2):=fun w' h=>h.nil_cell ((HW.out.cell (p:=⟨bb,off+j*6+2,ε⟩) bZ).trans L2.out)
      go_upto_region 12 with fail
      refine aw (aT) (by kernel_rfl) ?_;refine aq 0 ?_;refine aq 1 ?_;refine aq 2 ?_;refine aq 3 ?_;refine aq 4 ?_;refine aq 5 ?_;refine aq 6 ?_;refine bN 7 (hy:=dm (by rfl) (fun w' aC=>bo .neq 32 (.tmp 53) (.tmp 55) 32 rfl rfl rfl (by kernel_rfl) (hq w'))) (h:=?_);refine aG (by kernel_rfl) ?_ _;intro w8 ch;have Bp:=qh ((kr.out.up ((Θ wo.heap.size wo).drew)).up ch);have HW8:=qh (af cL.out Bp.out.below);clear ch kr HW tc BE Ap Mb Xi XZ ly2 hq;cases e with
      |true=>
       have uL:Hid (mv x ρ G=T3++mv x p2 (G.drop (j+1))):=qh (by
        have h:=ug.out;rw[if_pos (of_decide_eq_true HE.out)] at h;exact h)
       clear ug HE;go_wp2;go_roundw
       case rel=>exact⟨j+1,p2,A3,n3,c3,T3,by omega,by omega,rfl,rfl,by go_num,Bp,uL⟩
       case measure=>simp[intOf];omega
      |false=>
       have uL:Hid (mv x ρ G=(T3++[y])++mv x p2 (G.drop (j+1))):=qh (by
        have h:=ug.out;rw[if_neg (of_decide_eq_false HE.out)] at h;rw[h];simp)
       clear ug HE;go_upto_region 13 with fail
       obtain⟨A4,c4,W4,bL,Wf⟩:=LQ Bp.out y (by omega);have nI:=qh Wf;clear Wf Bp;refine Jam ?_;refine ag (v:=?_) (ζ 57) rfl (by rfl) ?_ ?_;rotate_left
       ·go_simp;(try with_reducible rfl)
       simp only[ξ,ak,aj,ah];refine ag (v:=?_) (ζ 58) rfl (by rfl) ?_ ?_;rotate_left
       ·go_simp;(try with_reducible rfl)
       simp only[ξ,ak,aj,ah];refine ag (v:=?_) (ζ 59) rfl (by rfl) ?_ ?_;rotate_left
       ·go_simp;(try with_reducible rfl)
       simp only[ξ,ak,aj,ah];refine ag (v:=?_) (ζ 60) rfl (by rfl) ?_ ?_;rotate_left
       ·go_simp;(try with_reducible rfl)
       simp only[ξ,ak,aj,ah];refine ny (ζ 61) rfl (by rfl) 98 (.tmp 60) rfl ⟨bb,off+j*6,ε⟩ rfl (cj y) _ (fun i u hu=>(HW8.out.cell (by rw[cA];exact bZ)).trans (HP.out i u hu)) Tryz.underlying98 rfl (by kernel_rfl) ?_;simp only[ξ,ak,aj,ah];refine cZ (ζ 62) rfl (by rfl) 26 98 1 #[(0,.tmp 61)] (by rfl) Tryz.underlying26 (cj y).toArray (by kernel_rfl) ?_;simp only[ξ,ak,aj,ah];refine jA (ζ 63) rfl (by rfl) (bV (by rfl) (by rfl) (by rfl) bL) ?_;simp only[ξ,ak,aj,ah];clear bL HP;go_wp2;go_roundw
       case rel=>exact⟨j+1,p2,A4,n3+1,c4,T3++[y],by omega,by omega,rfl,rfl,by go_num,nI,uL⟩
       case measure=>simp[intOf];omega
   ·obtain rfl:n=j:=by omega
    have hN:=HN.out;rw[Jak (by have:=HL.out;omega)] at hN;have sy:=qh (bj.out.bl HO.out.below);cases p with
    |true=>
     have HT:Hid (eA G x=T):=qh (by rw[HA.out,hN];show T++(if τ=τ then[] else[x])=T;simp);clear hN HN;go_wp2;go_ret;exact⟨A2,n2,c2,rfl,by rw[HT.out];exact bk HO.out.own,af cL.out HO.out.below⟩
    |false=>
     have HT:Hid (eA G x=T++[x]):=qh (by rw[HA.out,hN];rfl);obtain⟨A3,c3,W3,bL,wC⟩:=LQ HO.out x (by omega);have j0:=qh wC;clear wC hN HN;go_upto_region 15 with fail
     refine Jam ?_;refine ag (v:=?_) (ζ 66) rfl (by rfl) ?_ ?_;rotate_left
     ·go_simp;(try with_reducible rfl)
     simp only[ξ,ak,aj,ah];refine bh (ζ 67) rfl (by rfl) 98 (.tmp 3) rfl b0 rfl 98 (cj x) _ sy.out Tryz.underlying98 rfl (by kernel_rfl) ?_;simp only[ξ,ak,aj,ah];refine cZ (ζ 68) rfl (by rfl) 26 98 1 #[(0,.tmp 67)] (by rfl) Tryz.underlying26 (cj x).toArray (by kernel_rfl) ?_;simp only[ξ,ak,aj,ah];refine jA (ζ 69) rfl (by rfl) (bV (by rfl) (by rfl) (by rfl) bL) ?_;simp only[ξ,ak,aj,ah];clear bL;go_wp2;go_ret;exact⟨A3,n2+1,c3,rfl,by rw[HT.out];exact bk j0.out.own,af cL.out j0.out.below⟩
section
variable {W:ο} {A:Option Κ} {n c:Nat} {Vs:List VC} {B:Option Κ} {m k:Nat} {Es:List EC} {C:Option Κ} {r rc:Nat} {G:List Gn}
theorem Lx (h:aO W A n c Vs B m k Es) (hg:aS W W.heap.size 6 C r rc (ao cj G)) (hn:n≤1000) (hr:∀y∈Vs,y.2.1.2.1≤1000000) (jd:r≤1000) (d:D):
 Ζ η 98 #[φ #[γ A n c,γ B m k,γ C r rc],φ #[J d.1,J d.2.1,J d.2.2]] W fun e w'=>e=.returned (φ #[J (ln (EM Vs) G r d).1,J (ln (EM Vs) G r d).2.1,J (ln (EM Vs) G r d).2.2])∧σ W.heap.size W w':=by
 have HA:Hid (∀X,σ W.heap.size W X→∀x1 x2 x3,Ζ η 29 #[φ #[γ A n c,γ B m k],φ #[J x1,J x2,J x3]] X fun e w'=>e=.returned (Ξ #[φ #[J (jl Vs (x1,x2,x3)).1.1,J (jl Vs (x1,x2,x3)).1.2],Β (jl Vs (x1,x2,x3)).2])∧σ X.heap.size X w'):=qh (fun X hX x1 x2 x3=>nv A n c Vs B m k Es x1 x2 x3 X (h.below hX) (by omega) (fun y hy=>by have:=hr y hy;omega));have HF:Hid (∀X,σ W.heap.size W X→∀x:D,Ζ η 101 #[γ C r rc,φ #[J x.1,J x.2.1,J x.2.2]] X fun e w'=>e=.returned (Ξ #[φ #[J (iq G x).1.1,J (iq G x).1.2.1,J (iq G x).1.2.2],Β (iq G x).2])∧σ X.heap.size X w'):=qh (fun X hX x=>xu C r rc G x X (hg.bl hX) (by omega));obtain⟨z,gz⟩:=az (ln (EM Vs) G r d);have lD:Hid (if 0≤r then ln (EM Vs) G (r - 0) d=z else z=zD):=qh (by rw[if_pos (Jas _)];exact gz);rw[gz];obtain⟨d1,d2,d3⟩:=d;obtain⟨z1,z2,z3⟩:=z;clear h hg hr gz;go_enter Tryz.func98,Tryz.ntmps98;go_upto_region 1 with fail
 obtain⟨W0,b0,b1,b2,bJ,bS,cJ,dA,aR,aQ,bj,bn,-,-,j4,-,fD,-,a8,kY,mJ,ni⟩:=jm W 28 [γ A n c,γ B m k,γ C r rc] 32 [J d1,J d2,J d3] 32 [J 0,J 0,J 0];rw[bJ,dA,cJ,bS];clear bJ bS cJ dA;go_upto_region 2 with fail
 go_loopw [5] (fun vi wr=>∃(j:Nat) (e1 e2 e3:Int),j≤r+1∧vi=J (j:Int)∧Hid (σ W.heap.size W wr)∧Hid (Whole wr b0 28 [γ A n c,γ B m k,γ C r rc])∧Hid (Whole wr b1 32 [J e1,J e2,J e3])∧Hid (Whole wr b2 32 [J 0,J 0,J 0])∧Hid (if j≤r then ln (EM Vs) G (r - j) (e1,e2,e3)=(z1,z2,z3) else(z1,z2,z3)=zD)) (fun vi _=>r+1 - (intOf vi).toNat)
 case atStart=>exact⟨0,d1,d2,d3,Jas _,rfl,bn,aR,aQ,bj,lD⟩
 case round=>
  clear bn aR aQ bj lD;obtain⟨j,e1,e2,e3,hj,rfl,HB,aR,aQ,bj,HN⟩:=hrel;obtain⟨wo,dB⟩:=az wr;rw[dB] at HB aR aQ bj ⊢;clear dB
  by_cases hjr:j≤r
  ·have hi:(j:Int)≤(r:Int):=by omega
   have x0:=aR.out.cell (i:=0) rfl;have x1:=aR.out.cell (i:=1) rfl;have x2:=aR.out.cell (i:=2) rfl;have p0:=aQ.out.cell (i:=0) rfl;have p1:=aQ.out.cell (i:=1) rfl;have p2:=aQ.out.cell (i:=2) rfl;obtain⟨⟨⟨a1,a2⟩,st⟩,ga⟩:∃z,jl Vs (e1,e2,e3)=z:=⟨_,rfl⟩
   have Gd:EM Vs (e1,e2,e3)=st:=by unfold EM;rw[ga]
   have SO:=qh (HA.out wo HB.out e1 e2 e3);rw[ga] at SO;have HSt:=qh Gd;have qj:Hid (ln (EM Vs) G (r - j) (e1,e2,e3)=(z1,z2,z3)):=qh (by have:=HN.out;rwa [if_pos hjr] at this);clear ga Gd HN
   go_upto_region 5 with (first
    |(go_at_call 29
      refine SO.out.mono ?_;rintro e w2 ⟨rfl,ar⟩;have cL:=qh (aF (af HB.out ar) (δ #[J a1,J a2] 30));have tV:=qh ((aR.out.bl ar).al (δ #[J a1,J a2] 30));have ll:=qh ((aQ.out.bl ar).al (δ #[J a1,J a2] 30));have rW:=qh ((bj.out.bl ar).al (δ #[J a1,J a2] 30));clear ar HB aR aQ bj SO x0 x1 x2 p0 p1 p2))
   obtain⟨w3,qK⟩:=az (w2.alloc (δ #[J a1,J a2] 30));rw[qK] at cL tV ll rW ⊢;clear qK;cases st with
   |true=>
    have hz:(e1,e2,e3)=(z1,z2,z3):=by rw[←qj.out,G0 _ _ _ HSt.out]
    injection hz with h1 h2
    injection h2 with h2 h3
    subst h1 h2 h3;have p0:=ll.out.cell (i:=0) rfl;have p1:=ll.out.cell (i:=1) rfl;have p2:=ll.out.cell (i:=2) rfl;have XY:=rW.out.cell (i:=0) rfl;have XE:=rW.out.cell (i:=1) rfl;have XA:=rW.out.cell (i:=2) rfl;have y0:=rW.out.free 0;have y1:=rW.out.free 1;have y2:=rW.out.free 2;have nb:=ni.out;go_wp2;exact bz rfl b2 rfl (((rW.out.set_ 0 (J e1)).set_ 1 (J e2)).set_ 2 (J e3)) Tryz.underlying32 rfl (by kernel_rfl) rfl ⟨rfl,(((cL.out.setCell (p:=⟨b2,0,ε⟩) a8.out (J e1)).setCell (p:=⟨b2,1,ε⟩) a8.out (J e2)).setCell (p:=⟨b2,2,ε⟩) a8.out (J e3))⟩
   |false=>
    have x0:=tV.out.cell (i:=0) rfl;have x1:=tV.out.cell (i:=1) rfl;have x2:=tV.out.cell (i:=2) rfl;have p0:=ll.out.cell (i:=0) rfl;have p1:=ll.out.cell (i:=1) rfl;have p2:=ll.out.cell (i:=2) rfl;obtain⟨⟨⟨t1,t2,t3⟩,ok⟩,gf⟩:∃z,iq G (e1,e2,e3)=z:=⟨_,rfl⟩
    have Wv:=qh (HF.out w3 cL.out (e1,e2,e3));rw[gf] at Wv;have WR:=qh gf;clear gf
    go_upto_region 8 with (first
     |(go_at_call 101
       refine Wv.out.mono ?_;rintro e w4 ⟨rfl,s5⟩;have jJ:=qh (aF (af cL.out s5) (δ #[J t1,J t2,J t3] 32));have GV:=qh ((tV.out.bl s5).al (δ #[J t1,J t2,J t3] 32));have fY:=qh ((ll.out.bl s5).al (δ #[J t1,J t2,J t3] 32));have ji:=qh ((rW.out.bl s5).al (δ #[J t1,J t2,J t3] 32));have Bj:=qh (Whole.new_ w4 32 [J t1,J t2,J t3]);have Nt4:Hid (b1≠w4.heap.size):=qh (by have:=(ll.out.bl s5).lt;omega);clear s5 cL tV ll rW Wv x0 x1 x2 p0 p1 p2))
    obtain⟨w5,UB⟩:=az (w4.alloc (δ #[J t1,J t2,J t3] 32));obtain⟨b5,JO⟩:=az w4.heap.size;rw[UB] at jJ GV fY ji Bj ⊢;rw[JO] at Bj Nt4 ⊢;clear UB JO;have Tq:¬EM Vs (e1,e2,e3)=τ:=by rw[HSt.out];decide
    cases ok with
    |false=>
     have hz:(z1,z2,z3)=zD:=by rw[←qj.out,FO _ _ _ Tq (by rw[WR.out];exact Bool.false_ne_true)]
     injection hz with h1 h2
     injection h2 with h2 h3
     subst h1 h2 h3;clear Tq;have XY:=ji.out.cell (i:=0) rfl;have XE:=ji.out.cell (i:=1) rfl;have XA:=ji.out.cell (i:=2) rfl;have y0:=ji.out.free 0;have y1:=ji.out.free 1;have y2:=ji.out.free 2;go_wp2;exact bz rfl b2 rfl (((ji.out.set_ 0 (J 0)).set_ 1 (J 0)).set_ 2 (J 0)) Tryz.underlying32 rfl (by kernel_rfl) rfl ⟨rfl,(((jJ.out.setCell (p:=⟨b2,0,ε⟩) a8.out (J 0)).setCell (p:=⟨b2,1,ε⟩) a8.out (J 0)).setCell (p:=⟨b2,2,ε⟩) a8.out (J 0))⟩
    |true=>
     have YH:Hid (if j+1≤r then ln (EM Vs) G (r - (j+1)) (t1,t2,t3)=(z1,z2,z3) else(z1,z2,z3)=zD):=qh (by
      have h:=qj.out
      by_cases eS:j+1≤r
      ·rw[if_pos eS];rw[show r - j=(r - (j+1))+1 by omega,Ih _ _ _ Tq (by rw[WR.out]),WR.out] at h;exact h
      ·rw[if_neg eS];rw[show r - j=0 by omega,Jj _ _ Tq] at h;exact h.symm)
     clear Tq qj WR HSt;have Qu:=Bj.out.cell (i:=0) rfl;have Qk:=Bj.out.cell (i:=1) rfl;have Sa:=Bj.out.cell (i:=2) rfl;have p0:=fY.out.cell (i:=0) rfl;have p1:=fY.out.cell (i:=1) rfl;have p2:=fY.out.cell (i:=2) rfl;have y0:=fY.out.free 0;have y1:=fY.out.free 1;have y2:=fY.out.free 2;go_wp2;go_roundw
     case rel=>exact⟨j+1,t1,t2,t3,by omega,by go_num,qh (((jJ.out.setCell (p:=⟨b1,0,ε⟩) fD.out (J t1)).setCell (p:=⟨b1,1,ε⟩) fD.out (J t2)).setCell (p:=⟨b1,2,ε⟩) fD.out (J t3)),qh (((GV.out.set_far' (i:=0) kY.out (J t1)).set_far' (i:=1) kY.out (J t2)).set_far' (i:=2) kY.out (J t3)),qh (((fY.out.set_ 0 (J t1)).set_ 1 (J t2)).set_ 2 (J t3)),qh (((ji.out.set_far' (i:=0) ni.out.symm (J t1)).set_far' (i:=1) ni.out.symm (J t2)).set_far' (i:=2) ni.out.symm (J t3)),YH⟩
     case measure=>simp[intOf];omega
  ·have hi:¬(j:Int)≤(r:Int):=by omega
   have hz:(z1,z2,z3)=zD:=by have:=HN.out;rwa [if_neg hjr] at this
   injection hz with h1 h2
   injection h2 with h2 h3
   subst h1 h2 h3;clear HN;have x2:=aR.out.cell (i:=2) rfl;have XY:=bj.out.cell (i:=0) rfl;have XE:=bj.out.cell (i:=1) rfl;have XA:=bj.out.cell (i:=2) rfl;have y0:=bj.out.free 0;have y1:=bj.out.free 1;have y2:=bj.out.free 2;go_wp2;exact bz rfl b2 rfl (((bj.out.set_ 0 (J 0)).set_ 1 (J 0)).set_ 2 (J 0)) Tryz.underlying32 rfl (by kernel_rfl) rfl ⟨rfl,(((HB.out.setCell (p:=⟨b2,0,ε⟩) a8.out (J 0)).setCell (p:=⟨b2,1,ε⟩) a8.out (J 0)).setCell (p:=⟨b2,2,ε⟩) a8.out (J 0))⟩
end
end Go.Proofs.YtpdpbfmiahjiiaaGreat
