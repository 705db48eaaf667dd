/- Several texts in one. -/
import Derived.Test.YtpdpbfmiahjiiaaGreatPlAB
import Derived.Test.YtpdpbfmiahjiiaaGreatPlAC
set_option linter.unusedSectionVars false
set_option linter.unusedSimpArgs false
set_option linter.unusedVariables false
set_option maxRecDepth 100000
set_option maxHeartbeats 16000000
namespace Go.Proofs.YtpdpbfmiahjiiaaGreat
open Go.RowKit
open _root_.Go.Value renaming slice→γ,agg→φ
open _root_.Go.Obj renaming cells→δ
open _root_.Option renaming none→ε,some→ζ
open _root_.Go.Proofs.Tryz renaming prog→η
open _root_.List renaming getElem?_eq_getElem→θ,map_cons→ι,getElem?_eq_some_iff→ν,getD_eq_getElem?_getD→χ,mem_map→Α,length_append→Ε,mem_cons→Η,take_of_length_le→Ι,getElem?_append_left→Jab,mem_cons_of_mem→Jad,mem_cons_self→Jai,mem_append→Jan,mem_flatMap→Jat,mem_filter→JaC,nodup_cons→JaJ,nodup_append→JaL,getElem?_drop→JaS,map_congr_left→JaV,take_append_drop→Jbf,pairwise_map→Jbg,getElem_mem→Jbs,flatMap_cons→Jby,pairwise_cons→JbM
open _root_.Go renaming World→ο,Calls→Ζ,maxLen→Jap
open _root_.Bool renaming false→ρ,true→τ
open _root_.Go.RowKit renaming Below→σ
open _root_.Nat renaming le_refl→Δ,add_zero→Jac,zero_le→Jas,lt_of_lt_of_le→JaK,lt_or_ge→JaM,mod_eq_of_lt→JbE
open _root_.Go.RowKit.Below renaming refl→Θ
open _root_.ByteArray renaming empty→Jaf
theorem xu (A:Option Addr) (n c:Nat) (G:List Gn) (d:D) (w:ο) (h:aS w w.heap.size 6 A n c (ao cj G)) (hn:n≤1000000):
 Ζ η 101 #[γ A n c,φ #[J d.1,J d.2.1,J d.2.2]] w fun e w'=>e=.returned (.tuple #[φ #[J (iq G d).1.1,J (iq G d).1.2.1,J (iq G d).1.2.2],.bool (iq G d).2])∧σ w.heap.size w w':=by
 have H:=qh h;have Hl:=qh (h.rlen bU (by decide));obtain⟨⟨r,ok⟩,gr⟩:∃z,iq G d=z:=⟨_,rfl⟩
 rw[gr];have HG:=qh gr;clear h gr;go_enter Tryz.func101,Tryz.ntmps101;go_wp2;obtain⟨W0,b0,b1,bJ,bS,cJ,aR,aQ,bn,uo,zl,j4,zY,fD,kY⟩:=D8 w 32 [J d.1,J d.2.1,J d.2.2] 32 [J 0,J 0,J 0];rw[bJ,cJ,bS];clear bJ bS cJ;go_loopw [6] (fun si wr=>∃j:Nat,j≤n∧si=J j∧Hid (σ w.heap.size w wr)∧Hid (Whole wr b0 32 [J d.1,J d.2.1,J d.2.2])∧Hid (Whole wr b1 32 [J 0,J 0,J 0])∧Hid (iq (G.drop j) d=(r,ok))) (fun si _=>n - (intOf si).toNat)
 case atStart=>exact⟨0,by omega,rfl,bn,aR,aQ,HG⟩
 case round=>
  clear bn aR aQ HG;obtain⟨j,hj,rfl,HB,aR,aQ,HG⟩:=hrel;obtain⟨wo,dB⟩:=az wr;rw[dB] at HB aR aQ ⊢;clear dB
  by_cases nF:j<n
  ·obtain⟨x,hx⟩:∃x,G[j]? =ζ x:=⟨_,θ (by have:=Hl.out;omega)⟩
   have qO:G.drop j=x::G.drop (j+1):=by
    rw[List.drop_eq_getElem_cons (ν.1 hx).1,(ν.1 hx).2]
   have lF:=HG.out;rw[qO] at lF;have fK:=qh lF;obtain⟨bb,off,rfl,bZ,bD⟩:=H.out.place bU (by decide) (by omega);have cR:=HB.out;have q0:=bD j _ hx 0 _ rfl;have q1:=bD j _ hx 1 _ rfl;have q2:=bD j _ hx 2 _ rfl;have q3:=bD j _ hx 3 _ rfl;have q4:=bD j _ hx 4 _ rfl;have q5:=bD j _ hx 5 _ rfl;simp only[Addr.add_lit,Jac] at q0 q1 q2 q3 q4 q5;have l0:=(cR.cell (p:=⟨bb,off+j*6,ε⟩) bZ).trans q0;have l1:=(cR.cell (p:=⟨bb,off+j*6+1,ε⟩) bZ).trans q1;have l2:=(cR.cell (p:=⟨bb,off+j*6+2,ε⟩) bZ).trans q2;have l3:=(cR.cell (p:=⟨bb,off+j*6+3,ε⟩) bZ).trans q3;have l4:=(cR.cell (p:=⟨bb,off+j*6+4,ε⟩) bZ).trans q4;have l5:=(cR.cell (p:=⟨bb,off+j*6+5,ε⟩) bZ).trans q5;clear cR q0 q1 q2 q3 q4 q5;have iM:=dE l0;have ld1:=dE l1;have rQ:=dE l2;have BE:=dX (i:=0) aR.out rfl;have Ap:=dX (i:=1) aR.out rfl;have Mb:=dX (i:=2) aR.out rfl;have N5:(j:Int)<(n:Int):=by omega
   have hq:=oF x.1 d;have L3:=qh l3;have L4:=qh l4;have L5:=qh l5;clear hx qO lF bD HG l0 l1 l2 l3 l4 l5
   by_cases hd:x.1=d
   ·rw[decide_eq_true hd] at hq;have hg:=fK.out;rw[iq,if_pos hd] at hg;injection hg with hg1 lF
    subst hg1 lF;clear hd;go_upto_region 4 with fail
    refine aw (aT) (by kernel_rfl) ?_;refine aq 0 ?_;refine aq 1 ?_;refine aq 2 ?_;refine aq 3 ?_;refine aq 4 ?_;refine aq 5 ?_;refine bN 6 (hy:=dm (by rfl) (fun w' aC=>bo .eql 32 (.tmp 17) (.tmp 18) 32 rfl rfl rfl (by kernel_rfl) (hq w'))) (h:=?_);refine aG (by kernel_rfl) ?_ _;intro W3 iu;have tt:=af (ba (Θ wo.heap.size wo)) iu;have zq:=qh (af HB.out tt);have ru:=qh (aR.out.below tt);have iA:=qh (aQ.out.below tt);have l3:=(tt.cell (p:=⟨bb,off+j*6+3,ε⟩) (by have:=HB.out.size;exact JaK bZ this)).trans L3.out;have l4:=(tt.cell (p:=⟨bb,off+j*6+4,ε⟩) (by have:=HB.out.size;exact JaK bZ this)).trans L4.out;have l5:=(tt.cell (p:=⟨bb,off+j*6+5,ε⟩) (by have:=HB.out.size;exact JaK bZ this)).trans L5.out;have f0:=iA.out.free 0;have f1:=iA.out.free 1;have f2:=iA.out.free 2;have k0:=iA.out.cell (i:=0) rfl;have k1:=iA.out.cell (i:=1) rfl;have k2:=iA.out.cell (i:=2) rfl;have HY:=qh (((iA.out.set_ 0 (J x.2.1)).set_ 1 (J x.2.2.1)).set_ 2 (J x.2.2.2));have tL:=qh (((zq.out.setCell (p:=⟨b1,0,ε⟩) fD.out (J x.2.1)).setCell (p:=⟨b1,1,ε⟩) fD.out (J x.2.2.1)).setCell (p:=⟨b1,2,ε⟩) fD.out (J x.2.2.2));clear iA ru zq fK iu tt HB aR aQ iM ld1 rQ BE Ap Mb hq L3 L4 L5;go_wp2;exact aE rfl b1 rfl rfl HY.out Tryz.underlying32 rfl (by kernel_rfl) rfl ⟨rfl,tL.out⟩
   ·rw[decide_eq_false hd] at hq;have hg:=fK.out;rw[iq,if_neg hd] at hg;have Kb:=qh hg;clear hg hd;go_upto_region 4 with fail
    refine aw (aT) (by kernel_rfl) ?_;refine aq 0 ?_;refine aq 1 ?_;refine aq 2 ?_;refine aq 3 ?_;refine aq 4 ?_;refine aq 5 ?_;refine bN 6 (hy:=dm (by rfl) (fun w' aC=>bo .eql 32 (.tmp 17) (.tmp 18) 32 rfl rfl rfl (by kernel_rfl) (hq w'))) (h:=?_);refine aG (by kernel_rfl) ?_ _;intro W3 iu;have tt:=af (ba (Θ wo.heap.size wo)) iu;have zq:=qh (af HB.out tt);have ru:=qh (aR.out.below tt);have iA:=qh (aQ.out.below tt);clear fK iu tt HB aR aQ iM ld1 rQ BE Ap Mb hq L3 L4 L5;go_wp2;go_roundw
    case rel=>exact⟨j+1,by omega,by go_num,zq,ru,iA,Kb⟩
    case measure=>simp[intOf];omega
  ·obtain rfl:n=j:=by omega
   have hg:=HG.out;rw[List.drop_eq_nil_of_le (by have:=Hl.out;omega)] at hg;replace hg:(zD,ρ)=(r,ok):=hg;injection hg with hg1 lF
   subst hg1 lF;have f0:=aQ.out.free 0;have f1:=aQ.out.free 1;have f2:=aQ.out.free 2;have k0:=aQ.out.cell (i:=0) rfl;have k1:=aQ.out.cell (i:=1) rfl;have k2:=aQ.out.cell (i:=2) rfl;have HY:=qh (((aQ.out.set_ 0 (J 0)).set_ 1 (J 0)).set_ 2 (J 0));have tL:=qh (((HB.out.setCell (p:=⟨b1,0,ε⟩) fD.out (J 0)).setCell (p:=⟨b1,1,ε⟩) fD.out (J 0)).setCell (p:=⟨b1,2,ε⟩) fD.out (J 0));clear HG aQ;go_wp2;exact aE rfl b1 rfl rfl HY.out Tryz.underlying32 rfl (by kernel_rfl) rfl ⟨rfl,tL.out⟩
theorem gJ (A:Option Addr) (n c:Nat) (L:List D) (d:D) (w:ο) (h:aS w w.heap.size 3 A n c (aA L)) (hn:n≤9223372036854775807):
 Ζ η 33 #[γ A n c,φ #[J d.1,J d.2.1,J d.2.2]] w fun e w'=>e=.returned (J (fI L d))∧σ w.heap.size w w':=by
 have hl:=h.dlen;have HL:=qh hl;have H:=qh h;have HS:Hid (EF w L d 0 (w.alloc (δ #[J d.1,J d.2.1,J d.2.2] 32))):=⟨fun j hj=>absurd hj (by omega),Whole.new_ w _ [J d.1,J d.2.1,J d.2.2],ax _ _⟩;clear h hl;go_enter Tryz.func33,Tryz.ntmps33;go_wp2;go_loopw [5] (fun i wr=>∃k:Nat,k≤n∧i=J k∧EF w L d k wr) (fun i _=>n - (intOf i).toNat)
 case atStart=>exact⟨0,Jas _,rfl,HS.out⟩
 case round=>
  obtain⟨k,hk,rfl,h1,h2,h3⟩:=hrel;have H1:=qh h1;have H2:=qh h2;have H3:=qh h3;clear h1 HS
  by_cases eS:k<n
  ·obtain⟨b,off,rfl,hb,hc⟩:=H.out.darts (by omega);obtain⟨c1,c2,c3⟩:=hc k (by rw[HL.out];exact eS);have d1:=(h3.cell (p:=⟨b,off+k*3,ε⟩) hb).trans c1;have d2:=(h3.cell (p:=⟨b,off+k*3+1,ε⟩) hb).trans c2;have d3:=(h3.cell (p:=⟨b,off+k*3+2,ε⟩) hb).trans c3;have b1:=h2.cell (i:=0) rfl;have b2:=h2.cell (i:=1) rfl;have b3:=h2.cell (i:=2) rfl;obtain⟨x,gx⟩:=az (L.getD k (0,0,0));rw[gx] at d1 d2 d3;have GX:=qh gx;have hq:=oF x d;clear h2 h3 hc c1 c2 c3 gx
   by_cases hd:x=d
   ·have BU:decide (x=d)=τ:=by simpa using hd
    rw[BU] at hq;have HD:=qh hd;clear hd BU;go_wp2;go_quiet (fail);go_wp2;go_ret;exact⟨lq (by rw[Fy (by rw[HL.out];exact eS) (GX.out.trans HD.out) H1.out]),⟨H3.out.os,H3.out.tape,H3.out.output,H3.out.size,H3.out.block⟩⟩
   ·have BU:decide (x=d)=ρ:=by simpa using hd
    rw[BU] at hq;have HD:=qh hd;clear hd BU;go_wp2;go_quiet (fail);go_wp2;go_roundw
    case rel=>
     refine⟨k+1,by omega,by go_num,fun j hj=>?_,H2.out,⟨H3.out.os,H3.out.tape,H3.out.output,H3.out.size,H3.out.block⟩⟩
     rcases JaM j k with h|h
     ·exact H1.out j h
     ·obtain rfl:j=k:=by omega
      rw[GX.out];exact HD.out
    case measure=>simp[intOf];omega
  ·clear h2 h3;go_wp2;go_ret
   refine⟨lq ?_,H3.out⟩
   rw[Ah];intro j hj;exact H1.out j (by have:=HL.out;omega)
theorem FJ (L:List D) (i:Nat) (h:i<L.length):(aJ L).getD i (0,0,0)=L.getD ((cG L L.length+i) % L.length) (0,0,0):=by
 have hm:cG L L.length<L.length:=pD L _ (by omega);unfold aJ;generalize cG L L.length=m at*;simp only[χ];congr 1;rcases JaM (m+i) L.length with h1|h1
 ·rw[Jab (by simp;omega),JaS,JbE h1]
 ·rw[List.getElem?_append_right (by simp;omega),List.getElem?_take,List.length_drop,if_pos (by omega)];congr 1;rw[Nat.mod_eq_sub_mod h1,JbE (by omega)];omega
theorem kz (L:List D) (k:Nat) (h:k<L.length):L.take (k+1)=L.take k++[L.getD k (0,0,0)]:=by
 rw[List.take_succ_eq_append_getElem h];simp[h]
def lg (L:List D) (a d:D):List D:=if d∈L then L else L.take ((max (fI L a) 0).toNat+1)++d::L.drop ((max (fI L a) 0).toNat+1)
theorem gO {L:List D} {d:D} (h:d∈L):fI L d=(L.idxOf d:Int)∧L.idxOf d<L.length:=⟨by rw[fI,if_pos h],List.idxOf_lt_length_of_mem h⟩
theorem jE {L:List D} {d:D} (h:¬d∈L):fI L d= -1:=by rw[fI,if_neg h]
theorem NF (L:List D) (d:D):-1≤fI L d∧fI L d<L.length+1∧(0≤fI L d↔d∈L)∧(0<L.length→fI L d<L.length):=by
 by_cases h:d∈L
 ·obtain⟨e1,e2⟩:=gO h;rw[e1]
  refine⟨by omega,by omega,⟨fun _=>h,fun _=>by omega⟩,fun _=>by omega⟩
 ·rw[jE h]
  refine⟨by omega,by omega,⟨fun h'=>absurd h' (by omega),fun h'=>absurd h' h⟩,fun _=>by omega⟩
def qc (w:ο) (L:List D) (e:Ending) (w':ο):Prop:=
 ∃A c,e=.returned (γ A L.length c)∧aS w' w'.heap.size 3 A L.length c (aA L)∧σ w.heap.size w w'∧c≤Jap
theorem lH (A:Option Addr) (n c:Nat) (L:List D) (w:ο) (h:aS w w.heap.size 3 A n c (aA L)) (hn:n≤1000000):
 Ζ η 79 #[γ A n c] w (qc w (aJ L)):=by
 obtain⟨i0,hi,nz,j7,kZ⟩:=info_parts mz;have HR:=qh h;have hl:=h.dlen;subst hl;clear h;go_enter Tryz.func79,Tryz.ntmps79;go_wp2;go_loopw [3,4] (fun lv i wr=>∃k:Nat,k≤L.length∧i=J k∧lv=J (cG L k:Int)∧σ w.heap.size w wr) (fun _ i _=>L.length - (intOf i).toNat)
 case atStart=>exact⟨0,Jas _,rfl,rfl,Θ _ _⟩
 case round=>
  obtain⟨k2,F4,rfl,rfl,cR⟩:=hrel;have My:=qh cR
  by_cases Qa:k2<L.length
  ·obtain⟨b,off,rfl,hb,hc⟩:=(HR.out.up cR cR.size).darts (by omega);obtain⟨d1,d2,d3⟩:=hc k2 Qa;have M7:=mC L k2;have Jp:cG L k2<L.length:=by omega
   obtain⟨e1,e2,e3⟩:=hc (cG L k2) Jp;have hs:cG L (k2+1)=if oc (L.getD k2 (0,0,0)) (L.getD (cG L k2) (0,0,0))<0 then k2 else cG L k2:=rfl
   obtain⟨m,gm⟩:=az (cG L k2);rw[gm] at e1 e2 e3 M7 Jp hs ⊢;obtain⟨x,gx⟩:=az (L.getD k2 (0,0,0));obtain⟨y,gy⟩:=az (L.getD m (0,0,0));rw[gx] at d1 d2 d3 hs;rw[gy] at e1 e2 e3 hs;have HOr:=nV x.1 x.2.1 x.2.2 y.1 y.2.1 y.2.2;have ho:lV x.1 x.2.1 x.2.2 y.1 y.2.1 y.2.2=oc x y:=rfl;obtain⟨ov,wO⟩:=az (oc x y);rw[ho,wO] at HOr;rw[wO] at hs;have LO:=qh HOr;have HS:=qh hs;clear hc gm gx gy ho wO HOr hs;go_upto_region 5 with fail
   have g0:=dE d1;have g1:=dE d2;have g2:=dE d3;have g3:=dE e1;have g4:=dE e2;have g5:=dE e3;have hE:Hid (σ w.heap.size w wr.drew):=My.out.drew;clear cR
   by_cases ho:ov<0
   ·rw[if_pos ho] at HS;refine aw (aT) (by kernel_rfl) ?_;refine aq 0 ?_;refine aq 1 ?_;refine aq 2 ?_;refine aq 3 ?_;refine aq 4 ?_;refine aq 5 ?_;refine aq 6 ?_;refine aq 7 ?_;refine bN 8 (hy:=by apply cz;rfl;rotate_left;intro w' aC;exact LO.out w';intro w';go_simp) (h:=?_);refine aq 9 ?_;refine aG (by kernel_rfl) ?_ _;intro w' aC;have Mq:Hid (σ w.heap.size w w'):=hE.out.trans (aC.mono hE.out.size);clear g0 g1 g2 g3 g4 g5 aC d1 d2 d3 e1 e2 e3;go_wp2;go_roundw
    case rel=>exact⟨k2+1,by omega,by go_num,by rw[HS.out],Mq.out⟩
    case measure=>simp[intOf];omega
   ·rw[if_neg ho] at HS;refine aw (aT) (by kernel_rfl) ?_;refine aq 0 ?_;refine aq 1 ?_;refine aq 2 ?_;refine aq 3 ?_;refine aq 4 ?_;refine aq 5 ?_;refine aq 6 ?_;refine aq 7 ?_;refine bN 8 (hy:=by apply cz;rfl;rotate_left;intro w' aC;exact LO.out w';intro w';go_simp) (h:=?_);refine aq 9 ?_;refine aG (by kernel_rfl) ?_ _;intro w' aC;have Mq:Hid (σ w.heap.size w w'):=hE.out.trans (aC.mono hE.out.size);clear g0 g1 g2 g3 g4 g5 aC d1 d2 d3 e1 e2 e3;go_wp2;go_roundw
    case rel=>exact⟨k2+1,by omega,by go_num,by rw[HS.out],Mq.out⟩
    case measure=>simp[intOf];omega
  ·have Xb:k2=L.length:=by omega
   subst Xb;have M7:=mC L L.length;have ht:=FJ L;have hlen:=ee L;obtain⟨R,gR⟩:=az (aJ L);obtain⟨m,gm⟩:=az (cG L L.length);rw[gm,gR] at ht;rw[gR] at hlen;rw[gm] at M7 ⊢;have GR:=qh gR;have HT:=qh ht;have Vw:=qh hlen;clear ht gm gR hlen;obtain⟨W1,rfl⟩:∃x:ο,x=wr:=⟨_,rfl⟩
   have HO:Hid (Ow w w.heap.size 32 3 (γ (ζ ⟨W1.heap.size,0,ε⟩) 0 0) 0 [] (W1.alloc (δ #[] 32))):=Ow.new_ (cs:=#[]) My.out (Δ _) My.out.size (Jas _) rfl;clear cR;go_wp2;go_loopw [5,6] (fun v i wr=>∃k:Nat,k≤L.length∧i=J k∧Ow w w.heap.size 32 3 v (R.take k).length (aA (R.take k)) wr) (fun _ i _=>L.length - (intOf i).toNat)
   case atStart=>exact⟨0,Jas _,rfl,HO.out⟩
   case round=>
    clear HO;obtain⟨k,hk,rfl,fu⟩:=hrel;have HO:=qh fu
    by_cases eS:k<L.length
    ·obtain⟨b,off,rfl,hb,hc⟩:=(HR.out.up fu.below fu.below.size).darts (by omega);have hj:(m+k) % L.length<L.length:=Nat.mod_lt _ (by omega);have Cg:((m:Int)+(k:Int)) % (L.length:Int)=(((m+k) % L.length:Nat):Int):=by rw[Int.natCast_emod,Int.natCast_add]
     have hx:=HT.out k eS;obtain⟨j,gj⟩:=az ((m+k) % L.length);rw[gj] at hj Cg hx;obtain⟨c1,c2,c3⟩:=hc j hj;obtain⟨x,gx⟩:=az (L.getD j (0,0,0));rw[gx] at c1 c2 c3 hx;have HX:=qh hx;have HTk:=qh (kz R k (by rw[Vw.out];exact eS))
     have hlk:(R.take k).length≤1000000:=by
      have:=List.length_take_le k R
      omega
     clear hc fu gj gx hx
     go_wp2_with (first
      |(at_builtin
        refine eZ rfl (.tmp 31) (.tmp 41) _ rfl _ 32 i0 _ 3 24 Tryz.underlying57 hi nz j7 kZ rfl (by decide) _ _ _ rfl (by exact HO.out.up (ax _ _)) _ (ζ ⟨wr.heap.size,0,ε⟩) 1 1 (aA [x]) rfl (by exact aS.whole3 (L:=[x]) (Whole.new_ _ _ _)) (dW [x]) (by unfold Jap;omega) (by omega) ?_;intro v1 w1 eY fe;have lY:=qh eY;clear eY fe))
     go_roundw
     case rel=>
      refine⟨k+1,by omega,by go_num,?_⟩
      rw[HTk.out,HX.out,Ε,fa];exact lY.out
     case measure=>simp[intOf];omega
    ·have Po:R.take k=R:=Ι (by rw[Vw.out];omega);rw[Po] at HO;clear fu Po;obtain⟨A1,c1,hv,BP⟩:=HO.out.rds;subst hv;have sQ:=qh BP;clear BP;go_wp2;go_ret;rw[GR.out];exact⟨A1,c1,rfl,sQ.out,HO.out.below,fV HO.out.own⟩
theorem AB (L:List D) (d:D) (k:Nat) (h:k<L.length):(L.take (k+1)).filter (fun x=>decide (x≠d))=(L.take k).filter (fun x=>decide (x≠d))++if L.getD k (0,0,0)=d then[] else[L.getD k (0,0,0)]:=by
 rw[kz L k h,List.filter_append];generalize L.getD k (0,0,0)=x
 by_cases e:x=d
 ·rw[if_pos e];simp[e]
 ·rw[if_neg e];simp[e]
def kd (L:List D) (d:D):List D:=L.filter fun x=>decide (x≠d)
theorem wW (A:Option Addr) (n c:Nat) (L:List D) (d:D) (w:ο) (h:aS w w.heap.size 3 A n c (aA L)) (hn:n≤999000):
 Ζ η 102 #[γ A n c,φ #[J d.1,J d.2.1,J d.2.2]] w (qc w (aJ (kd L d))):=by
 obtain⟨i0,hi,nz,j7,kZ⟩:=info_parts mz;have HT:=qh (fun A n c L W h hn=>lH A n c L W h hn);have HR:=qh h;have hl:=h.dlen;subst hl
 have h00:(Ow w (w.heap.size+1) 32 3 (γ (ζ ⟨w.heap.size+1,0,ε⟩) 0 0) 0 [] ((w.alloc (δ #[J d.1,J d.2.1,J d.2.2] 32)).alloc (δ #[] 32))):=by
  have:=Ow.new_ (e:=32) (size:=3) (cs:=#[]) (ax w (δ #[J d.1,J d.2.1,J d.2.2] 32)) (B:=w.heap.size+1) (by omega) (by simp) (n:=0) (Jas _) rfl
  simpa using this
 have PD:=qh h00;have FE:Hid (Whole ((w.alloc (δ #[J d.1,J d.2.1,J d.2.2] 32)).alloc (δ #[] 32)) w.heap.size 32 (aA [d])):=(Whole.new_ w _ (aA [d])).alloc _;clear h h00;go_enter Tryz.func102,Tryz.ntmps102;go_wp2;go_loopw [5,6] (fun v i wr=>∃k:Nat,k≤L.length∧i=J k∧Ow w (w.heap.size+1) 32 3 v ((L.take k).filter (fun x=>decide (x≠d))).length (aA ((L.take k).filter (fun x=>decide (x≠d)))) wr∧Whole wr w.heap.size 32 (aA [d])) (fun _ i _=>L.length - (intOf i).toNat)
 case atStart=>exact⟨0,Jas _,rfl,PD.out,FE.out⟩
 case round=>
  clear PD FE;obtain⟨k,hk,rfl,fu,hd⟩:=hrel;have HO:=qh fu;have HD:=qh hd
  by_cases eS:k<L.length
  ·obtain⟨b,off,rfl,hb,hc⟩:=(HR.out.up fu.below fu.below.size).darts (by omega);obtain⟨c1,c2,c3⟩:=hc k eS
   have Tn:((L.take k).filter (fun x=>decide (x≠d))).length≤1000000:=by
    have:=List.length_filter_le (fun x=>decide (x≠d)) (L.take k)
    have:=List.length_take_le k L
    omega
   have hf:=AB L d k eS;obtain⟨x,gx⟩:=az (L.getD k (0,0,0));rw[gx] at c1 c2 c3 hf;have d0:=hd.cell (i:=0) rfl;have d1:=hd.cell (i:=1) rfl;have d2:=hd.cell (i:=2) rfl;have hq:=kj x d;obtain⟨F,gF⟩:=az ((L.take k).filter (fun x=>decide (x≠d)));rw[gF] at HO hf Tn;have HF:=qh hf;clear hc fu gx gF hf hd
   by_cases he:x=d
   ·have AT:(!decide (x=d))=ρ:=by simpa using he
    rw[AT] at hq;rw[if_pos he,List.append_nil] at HF;clear he AT;go_wp2;go_quiet (fail);go_wp2;go_roundw
    case rel=>
     refine⟨k+1,by omega,by go_num,?_,HD.out.at_ rfl⟩
     rw[HF.out];exact HO.out.up (below_drewN _ _ _)
    case measure=>simp[intOf];omega
   ·have AT:(!decide (x=d))=τ:=by simpa using he
    rw[AT] at hq;rw[if_neg he] at HF;clear he AT;go_wp2;go_quiet (fail)
    go_wp2_with (first
     |(at_builtin
       refine eZ rfl (.tmp 20) (.tmp 25) _ rfl _ 32 i0 _ 3 24 Tryz.underlying57 hi nz j7 kZ rfl (by decide) _ _ _ rfl (by exact(HO.out.up (below_drewN _ _ _)).up (ax _ _)) _ (ζ ⟨wr.heap.size,0,ε⟩) 1 1 (aA [x]) rfl (by exact aS.whole3 (L:=[x]) (Whole.new2 (by simp))) (dW [x]) (by unfold Jap;omega) (by omega) ?_;intro v1 w1 eY fe;have lY:=qh eY;have wG:Hid (Whole w1 w.heap.size 32 (aA [d])):=(Whole.at_ (Whole.alloc (HD.out.at_ rfl) _) (fe.block _ (by omega)));clear eY fe))
    go_roundw
    case rel=>
     refine⟨k+1,by omega,by go_num,?_,wG.out⟩
     rw[HF.out,Ε,fa];exact lY.out
    case measure=>simp[intOf];omega
  ·have Po:(L.take k).filter (fun x=>decide (x≠d))=kd L d:=by rw[Ι (by omega)];rfl
   rw[Po] at HO
   have Tn:(kd L d).length≤1000000:=by
    have:=List.length_filter_le (fun x=>decide (x≠d)) L
    unfold kd;omega
   clear fu Po hd;obtain⟨A1,c1,hv,BP⟩:=HO.out.rds;subst hv;have sQ:=qh BP;clear BP
   go_wp2_with (first
    |(go_at_call 79;refine(HT.out _ _ _ _ _ (by exact sQ.out) Tn).mono ?_;rintro e w2 ⟨A2,c2,rfl,tP,ar,wy⟩;have OW:=qh wy;clear wy;have cL:=qh ar;have R2:=qh tP;clear ar tP))
   go_ret;exact⟨A2,c2,rfl,R2.out,HO.out.below.trans (cL.out.mono HO.out.below.size),OW.out⟩
def jj (L:List D) (d:D) (j i:Nat):List D:=if i≤j then L.take i else L.take (j+1)++d::(L.take i).drop (j+1)
theorem ME {L:List D} {d:D} {j i:Nat} (h:i<L.length) (hj:i<j):jj L d j (i+1)=jj L d j i++[L.getD i (0,0,0)]:=by
 rw[jj,jj,if_pos (by omega),if_pos (by omega),kz L i h]
theorem Nh {L:List D} {d:D} {j:Nat} (h:j<L.length):jj L d j (j+1)=jj L d j j++[L.getD j (0,0,0)]++[d]:=by
 rw[jj,jj,if_neg (by omega),if_pos (by omega),kz L j h,List.drop_of_length_le (by simp;omega)]
theorem N1 {L:List D} {d:D} {j i:Nat} (h:i<L.length) (hj:j<i):jj L d j (i+1)=jj L d j i++[L.getD i (0,0,0)]:=by
 rw[jj,jj,if_neg (by omega),if_neg (by omega),kz L i h,List.drop_append_of_le_length (by simp;omega)];simp
theorem Ko (L:List D) (d:D) (j i:Nat):(jj L d j i).length≤L.length+2:=by
 unfold jj;split
 ·have:=List.length_take_le i L
  have:(L.take i).length≤L.length:=by simp;omega
  omega
 ·simp;omega
theorem KO {L:List D} {d:D} {j:Nat} (h:j<L.length):jj L d j L.length=L.take (j+1)++d::L.drop (j+1):=by
 rw[jj,if_neg (by omega),List.take_length]
theorem wS (A:Option Addr) (n c:Nat) (L:List D) (a d:D) (w:ο) (h:aS w w.heap.size 3 A n c (aA L)) (hn:n≤999000):
 Ζ η 100 #[γ A n c,φ #[J a.1,J a.2.1,J a.2.2],φ #[J d.1,J d.2.1,J d.2.2]] w (qc w (aJ (lg L a d))):=by
 obtain⟨i0,hi,nz,j7,kZ⟩:=info_parts mz;have HI:=qh (fun x W h=>gJ A n c L x W h (by omega));have HT:=qh (fun A n c L W h hn=>lH A n c L W h hn);have HR:=qh h;have hl:=h.dlen;subst hl;obtain⟨W0,bJ⟩:=az ((w.alloc (δ #[J a.1,J a.2.1,J a.2.2] 32)).alloc (δ #[J d.1,J d.2.1,J d.2.2] 32));have jn:σ w.heap.size w W0:=by rw[←bJ];exact bT _ _ _
 have S8:W0.heap.size=w.heap.size+2:=by rw[←bJ];simp
 have PZ:Whole W0 w.heap.size 32 (aA [a]):=by rw[←bJ];exact(Whole.new_ w _ (aA [a])).alloc _
 have FE:Whole W0 (w.heap.size+1) 32 (aA [d]):=by
  rw[←bJ];exact Whole.new2 (cs:=aA [d]) (by simp)
 have B0:=qh jn;have S0:=qh S8;have AA:=qh PZ;have DD:=qh FE;have a0:=PZ.cell (i:=0) rfl;have a1:=PZ.cell (i:=1) rfl;have a2:=PZ.cell (i:=2) rfl;have d0:=FE.cell (i:=0) rfl;have d1:=FE.cell (i:=1) rfl;have d2:=FE.cell (i:=2) rfl;have GW:=qh bJ;have Mp:=qh (HI.out a);have JM:=qh (HI.out d);have tok:True:=trivial;clear h bJ jn PZ FE HI S8
 by_cases hd:d∈L
 ·have e1:lg L a d=L:=by rw[lg,if_pos hd]
  obtain⟨i1,i2⟩:=gO hd;rw[i1] at JM;obtain⟨k,gk⟩:=az (L.idxOf d);rw[gk] at JM;have E1:=qh e1;clear e1 i1 i2 gk hd;go_enter Tryz.func100,Tryz.ntmps100;go_upto_region 1 with fail
  rw[GW.out]
  go_wp2_with (first
   |(go_at_call 33;refine(JM.out _ (by exact HR.out.up B0.out B0.out.size)).mono ?_;rintro e w2 ⟨rfl,ar⟩;have B2:=qh (B0.out.trans (ar.mono B0.out.size));clear ar)
   |(go_at_call 79;refine(HT.out _ _ _ _ _ (by exact HR.out.up B2.out B2.out.size) (by omega)).mono ?_;rintro e w3 ⟨A2,c2,rfl,rz,bw,Ww⟩))
  go_ret;rw[E1.out];exact⟨A2,c2,rfl,rz,B2.out.trans (bw.mono B2.out.size),Ww⟩
 ·have e1:lg L a d=L.take ((max (fI L a) 0).toNat+1)++d::L.drop ((max (fI L a) 0).toNat+1):=by rw[lg,if_neg hd]
  rw[jE hd] at JM;obtain⟨i1,i2,i3,i4⟩:=NF L a;obtain⟨k,gk⟩:=az (fI L a);rw[gk] at Mp e1 i1 i2 i4;have PS:∃j:Nat,max k 0=(j:Int)∧(0<L.length→j<L.length):=⟨(max k 0).toNat,by omega,by omega⟩
  obtain⟨j,hj,Y0⟩:=PS;rw[hj,Int.toNat_natCast] at e1;have E1:=qh e1;have HJ:=qh hj;have HJ2:=qh Y0;have hkb:k≤1000000:=by omega
  clear e1 i2 i3 i4 gk hd hj Y0;go_enter Tryz.func100,Tryz.ntmps100;go_upto_region 1 with fail
  rw[GW.out]
  go_upto_region 3 with (first
   |(go_at_call 33;have _t:=tok;refine(JM.out _ (by exact HR.out.up B0.out B0.out.size)).mono ?_;rintro e w2 ⟨rfl,ar⟩;have B2:=qh (B0.out.trans (ar.mono B0.out.size));have S2:=qh ar.size;have A2:=qh (AA.out.below ar);have D2:=qh (DD.out.below ar);have q0:=A2.out.cell (i:=0) rfl;have q1:=A2.out.cell (i:=1) rfl;have q2:=A2.out.cell (i:=2) rfl;clear ar tok))
  clear a0 a1 a2 d0 d1 d2;go_cut [7] (fun v x=>v=J (j:Int)∧σ w.heap.size w x∧w.heap.size+2≤x.heap.size∧Whole x (w.heap.size+1) 32 (aA [d]))
  case first=>
   by_cases wz:0<k
   ·have tR:k=j:=by have:=HJ.out;omega
    have IE:=qh tR;clear tR
    go_wp2_with (first
     |(go_at_call 33;refine(Mp.out _ (by exact HR.out.up B2.out B2.out.size)).mono ?_;rintro e w3 ⟨rfl,bw⟩;have B3:=qh (B2.out.trans (bw.mono B2.out.size));have S3:=qh bw.size;have D3:=qh (D2.out.below bw);clear bw))
    go_meet;exact⟨by(have:=HJ.out;rw[show max 0 k=(j:Int) by omega]),B3.out,by have:=S0.out;have:=S2.out;have:=S3.out;omega,D3.out⟩
   ·have tR:(0:Int)=j:=by have:=HJ.out;omega
    have IE:=qh tR;clear tR
    go_wp2_with (first
     |(go_at_call 33;refine(Mp.out _ (by exact HR.out.up B2.out B2.out.size)).mono ?_;rintro e w3 ⟨rfl,bw⟩;have B3:=qh (B2.out.trans (bw.mono B2.out.size));have S3:=qh bw.size;have D3:=qh (D2.out.below bw);clear bw))
    go_meet;exact⟨by(have:=HJ.out;rw[show max 0 k=(j:Int) by omega]),B3.out,by have:=S0.out;have:=S2.out;have:=S3.out;omega,D3.out⟩
  case rest=>
  obtain⟨rfl,hbc,hsc,hdc⟩:=hcut;have PD:=qh (Ow.new_ (e:=32) (size:=3) (cs:=#[]) hbc (B:=w.heap.size+2) (by omega) hsc (n:=0) (Jas _) rfl);have FE:=qh (Whole.alloc hdc (δ #[] 32));clear hbc hsc hdc q0 q1 q2;obtain⟨W1,rfl⟩:∃x:ο,x=wc:=⟨_,rfl⟩
  go_wp2;go_loopw [8,9] (fun v i wr=>∃k:Nat,k≤L.length∧i=J k∧Ow w (w.heap.size+2) 32 3 v (jj L d j k).length (aA (jj L d j k)) wr∧Whole wr (w.heap.size+1) 32 (aA [d])) (fun _ i _=>L.length - (intOf i).toNat)
  case atStart=>exact⟨0,Jas _,rfl,PD.out,FE.out⟩
  case round=>
   clear PD FE;obtain⟨i,Mc,rfl,fu,hd⟩:=hrel;have HO:=qh fu;have HD:=qh hd;have hlen:=Ko L d j i
   by_cases eS:i<L.length
   ·obtain⟨b,off,rfl,hb,hc⟩:=(HR.out.up fu.below fu.below.size).darts (by omega);obtain⟨c1,c2,c3⟩:=hc i eS;have aeO:=HJ2.out (by omega);have p1:i<j→jj L d j (i+1)=jj L d j i++[L.getD i (0,0,0)]:=fun h=>ME eS h
    have p2:i=j→jj L d j (i+1)=jj L d j i++[L.getD i (0,0,0)]++[d]:=fun h=>by subst h;exact Nh eS
    have p3:j<i→jj L d j (i+1)=jj L d j i++[L.getD i (0,0,0)]:=fun h=>N1 eS h
    obtain⟨x,gx⟩:=az (L.getD i (0,0,0));rw[gx] at c1 c2 c3 p1 p2 p3;obtain⟨F,gF⟩:=az (jj L d j i);rw[gF] at HO p1 p2 p3 hlen;have P1:=qh p1;have P2:=qh p2;have P3:=qh p3;have VW:True:=trivial;clear hc fu gx gF p1 p2 p3 hd
    by_cases Fo:i=j
    ·have Y8:((i:Int)==(j:Int))=τ:=by rw[beq_iff_eq];omega
     have hp:=qh (P2.out Fo);have HIJ:=qh Fo;clear Fo
     go_wp2_with (first
      |(at_builtin
        have _t:=VW;refine eZ rfl (.tmp 27) (.tmp 32) _ rfl _ 32 i0 _ 3 24 Tryz.underlying57 hi nz j7 kZ rfl (by decide) _ _ _ rfl (by exact HO.out.up (ax _ _)) _ (ζ ⟨wr.heap.size,0,ε⟩) 1 1 (aA [x]) rfl (by exact aS.whole3 (L:=[x]) (Whole.new2 (by simp))) (dW [x]) (by unfold Jap;omega) (by omega) ?_;intro v1 w1 eY fe;have lY:=qh eY;have wG:Hid (Whole w1 (w.heap.size+1) 32 (aA [d])):=(Whole.at_ (Whole.alloc HD.out _) (fe.block _ (by omega)));have r0:=wG.out.cell (i:=0) rfl;have r1:=wG.out.cell (i:=1) rfl;have r2:=wG.out.cell (i:=2) rfl;clear eY fe VW)
      |(at_builtin
        refine eZ rfl (.tmp 37) (.tmp 39) _ rfl _ 32 i0 _ 3 24 Tryz.underlying57 hi nz j7 kZ rfl (by decide) _ _ _ rfl (by exact lY.out.up (ax _ _)) _ (ζ ⟨w1.heap.size,0,ε⟩) 1 1 (aA [d]) rfl (by exact aS.whole3 (L:=[d]) (Whole.new2 (by simp))) (dW [d]) (by unfold Jap;omega) (by omega) ?_;intro v2 w2 UX ar;have gE:=qh UX;have tC:Hid (Whole w2 (w.heap.size+1) 32 (aA [d])):=(Whole.at_ (Whole.alloc wG.out _) (ar.block _ (by omega)));clear UX ar))
     go_roundw
     case rel=>
      refine⟨i+1,by omega,by go_num,?_,tC.out⟩
      have h:=gE.out;rw[hp.out,Ε,Ε,fa,fa];exact h
     case measure=>simp[intOf];omega
    ·have Y8:((i:Int)==(j:Int))=ρ:=by rw[beq_eq_false_iff_ne];omega
     have hp:=qh (show jj L d j (i+1)=F++[x] by rcases Nat.lt_or_gt_of_ne Fo with h|h;exact P1.out h;exact P3.out h);clear Fo
     go_wp2_with (first
      |(at_builtin
        refine eZ rfl (.tmp 27) (.tmp 32) _ rfl _ 32 i0 _ 3 24 Tryz.underlying57 hi nz j7 kZ rfl (by decide) _ _ _ rfl (by exact HO.out.up (ax _ _)) _ (ζ ⟨wr.heap.size,0,ε⟩) 1 1 (aA [x]) rfl (by exact aS.whole3 (L:=[x]) (Whole.new2 (by simp))) (dW [x]) (by unfold Jap;omega) (by omega) ?_;intro v1 w1 eY fe;have lY:=qh eY;have wG:Hid (Whole w1 (w.heap.size+1) 32 (aA [d])):=(Whole.at_ (Whole.alloc HD.out _) (fe.block _ (by omega)));clear eY fe))
     go_roundw
     case rel=>
      refine⟨i+1,by omega,by go_num,?_,wG.out⟩
      rw[hp.out,Ε,fa];exact lY.out
     case measure=>simp[intOf];omega
   ·have hiL:i=L.length:=by omega
    subst hiL
    by_cases h0:L.length=0
    ·have hL:L=[]:=List.eq_nil_of_length_eq_zero h0;subst hL;have e0:jj [] d j ([]:List D).length=[]:=by simp[jj]
     rw[e0] at HO;have r0:=hd.cell (i:=0) rfl;have r1:=hd.cell (i:=1) rfl;have r2:=hd.cell (i:=2) rfl;have e2:lg [] a d=[d]:=by rw[E1.out];simp
     have E2:=qh e2;clear fu hd hlen e0 e2 h0
     go_wp2_with (first
      |(at_builtin
        refine eZ rfl (.tmp 44) (.tmp 46) _ rfl _ 32 i0 _ 3 24 Tryz.underlying57 hi nz j7 kZ rfl (by decide) _ _ _ rfl (by exact HO.out.up (ax _ _)) _ (ζ ⟨wr.heap.size,0,ε⟩) 1 1 (aA [d]) rfl (by exact aS.whole3 (L:=[d]) (Whole.new2 (by simp))) (dW [d]) (by unfold Jap;simp) (by simp) ?_;intro v1 w1 eY fe;have lY:Hid (Ow w (w.heap.size+2) 32 3 v1 [d].length (aA [d]) w1):=eY;clear eY fe;obtain⟨A1,c1,hv,BP⟩:=lY.out.rds;subst hv;have sQ:=qh BP;clear BP)
      |(go_at_call 79;refine(HT.out _ _ _ _ _ (by exact sQ.out) (by decide)).mono ?_;rintro e w2 ⟨A2,c2,rfl,tP,ar,wy⟩;have OW:=qh wy;clear wy;have cL:=qh ar;have R2:=qh tP;clear ar tP))
     go_ret;rw[E2.out];exact⟨A2,c2,rfl,R2.out,lY.out.below.trans (cL.out.mono lY.out.below.size),OW.out⟩
    ·have e0:jj L d j L.length=lg L a d:=by rw[E1.out,KO (HJ2.out (by omega))]
     rw[e0] at HO hlen;have bQ:((L.length:Int)==0)=ρ:=by simpa using h0
     obtain⟨F,gF⟩:=az (lg L a d);rw[gF] at HO hlen;have GF:=qh gF;clear fu hd e0 h0 gF;obtain⟨A1,c1,hv,BP⟩:=HO.out.rds;subst hv;have sQ:=qh BP;clear BP
     go_wp2_with (first
      |(go_at_call 79;refine(HT.out _ _ _ _ _ (by exact sQ.out) (by omega)).mono ?_;rintro e w2 ⟨A2,c2,rfl,tP,ar,wy⟩;have OW:=qh wy;clear wy;have cL:=qh ar;have R2:=qh tP;clear ar tP))
     go_ret;rw[GF.out];exact⟨A2,c2,rfl,R2.out,HO.out.below.trans (cL.out.mono HO.out.below.size),OW.out⟩
def pW (L:List D) (d:D) (p:Nat):D:=if d∈L then L.getD ((L.idxOf d+p) % L.length) (0,0,0) else(0,0,0)
def fm (L:List D) (d:D):D:=pW L d (L.length - 1)
def ft (L:List D) (d:D):List D:=if d∈L then L.take (L.idxOf d)++L.drop (L.idxOf d+1) else L
def rj (L:List D) (o d:D):List D:=if o∈L∧¬d∈L then L.take (L.idxOf o)++d::L.drop (L.idxOf o+1) else L
abbrev Nm:=Int × Int
abbrev VS:=Nm × List D × ByteArray × Int
abbrev SS:=List VS × List EC × List Gn
def eN (a b:Nm):Int:=lS a.1 a.2 b.1 b.2
theorem km (a b:Nm):eN a b=0↔a=b:=by
 unfold eN;rw[jx];exact⟨fun h=>Prod.ext h.1 h.2,fun h=>by rw[h];exact⟨rfl,rfl⟩⟩
theorem rf (a b:Nm):eN b a= - eN a b:=rC _ _ _ _
theorem pY {a b c:Nm} (h:eN a b<0) (k:eN b c<0):eN a c<0:=by
 have h1:eN a c≤0:=qC _ _ _ _ _ _ (Int.le_of_lt h) (Int.le_of_lt k);rcases Int.lt_or_eq_of_le h1 with h2|h2
 ·exact h2
 ·have e:=(km a c).1 h2;subst e
  have:=rf a b
  omega
section
variable {α:Type} (k:α→Nm)
def sv (l:List α):Prop:=l.Pairwise (fun a b=>eN (k a) (k b)<0)
def fp:List α→α→List α
 |[],v=>[v]
 |u::l,v=>if eN (k v) (k u)<0 then v::u::l else u::fp l v
def nL (l:List α) (x:Nm):Bool:=l.any (fun v=>decide (k v=x))
def fo (l:List α) (x:Nm):List α:=l.filter (fun v=>decide (¬k v=x))
variable {k}
theorem cT {l:List α} {x:Nm}:nL k l x=τ↔∃v∈l,k v=x:=by simp[nL]
theorem pt {l:List α} {x:Nm}:nL k l x=ρ↔∀v∈l,¬k v=x:=by simp[nL]
theorem sv.tail {v:α} {l:List α} (h:sv k (v::l)):sv k l:=(JbM.1 h).2
theorem sv.head {v:α} {l:List α} (h:sv k (v::l)):∀u∈l,eN (k v) (k u)<0:=(JbM.1 h).1
theorem sv.nodup {l:List α} (h:sv k l):(l.map k).Nodup:=by
 rw[List.Nodup,Jbg];exact h.imp (fun {a b} h e=>by rw[(km _ _).2 e] at h;omega)
theorem dL {v:α}:∀{l:List α} {u:α},u∈fp k l v↔u=v∨u∈l
 |[],u=>by simp[fp]
 |w::l,u=>by
  rw[fp];split
  ·simp
  ·rw[Η,dL,Η];constructor
   ·rintro (h|h|h)
    ·exact .inr (.inl h)
    ·exact .inl h
    ·exact .inr (.inr h)
   ·rintro (h|h|h)
    ·exact .inr (.inl h)
    ·exact .inl h
    ·exact .inr (.inr h)
theorem jS (v:α):∀l:List α,(fp k l v).length=l.length+1
 |[]=>rfl
 |w::l=>by
  rw[fp];split
  ·rfl
  ·rw[List.length_cons,jS v l];rfl
theorem vT {v:α}:∀{l:List α},sv k l→(∀u∈l,¬k u=k v)→sv k (fp k l v)
 |[],_,_=>List.pairwise_singleton _ _
 |w::l,h,hn=>by
  rw[fp];split
  ·rename_i eS;refine JbM.2 ⟨fun u hu=>?_,h⟩;rcases Η.1 hu with rfl|hu
   ·exact eS
   ·exact pY eS (h.head u hu)
  ·rename_i Pg;refine JbM.2 ⟨fun u hu=>?_,vT h.tail (fun u hu=>hn u (Jad _ hu))⟩;rcases dL.1 hu with rfl|hu
   ·have h1:=rf (k w) (k u);have h2:¬eN (k w) (k u)=0:=fun e=>hn w Jai ((km _ _).1 e)
    omega
   ·exact h.head u hu
theorem EP {v:α}:∀{l:List α} {i:Nat},i≤l.length→(∀t u,l[t]? =ζ u→t<i→eN (k u) (k v)<0)→(∀t u,l[t]? =ζ u→i≤t→0<eN (k u) (k v))→fp k l v=l.take i++v::l.drop i
 |[],i,hi,_,_=>by
  obtain rfl:i=0:=by simpa using hi
  rfl
 |w::l,0,_,_,h2=>by
  have h:=h2 0 w rfl (Δ _);have hn:=rf (k w) (k v);rw[fp,if_pos (by omega)];rfl
 |w::l,i+1,hi,h1,h2=>by
  have h:=h1 0 w rfl (by omega);have hn:=rf (k w) (k v);rw[fp,if_neg (by omega),EP (i:=i) (by simpa using hi) (fun t u ht eS=>h1 (t+1) u ht (by omega)) (fun t u ht hle=>h2 (t+1) u ht (by omega))];rfl
theorem yY:∀{l:List α} {i:Nat} {v:α},sv k l→l[i]? =ζ v→fo k l (k v)=l.take i++l.drop (i+1)
 |[],i,v,_,h=>by simp at h
 |w::l,0,v,hu,h=>by
  obtain rfl:w=v:=by simpa using h
  have e:∀u∈l,decide (¬k u=k w)=τ:=fun u XR=>decide_eq_true (fun q=>by
   have:=hu.head u XR
   rw[(km _ _).2 q.symm] at this;omega)
  show List.filter _ (w::l)=_;rw[List.filter_cons_of_neg (by simp),List.filter_eq_self.2 e];rfl
 |w::l,i+1,v,hu,h=>by
  have hv:v∈l:=List.mem_of_getElem? (i:=i) (by simpa using h)
  have hw:¬k w=k v:=fun q=>by
   have:=hu.head v hv
   rw[(km _ _).2 q] at this;omega
  have ih:=yY (i:=i) hu.tail (by simpa using h);show List.filter _ (w::l)=_;rw[List.filter_cons_of_pos (by simpa using hw)];show w::fo k l (k v)=_;rw[ih];rfl
theorem qY {l:List α} {x:Nm} (h:sv k l):sv k (fo k l x):=h.filter _
end
theorem kL {α:Type} {f:α→Nm}:∀{l:List α} {u v:α},(l.map f).Nodup→u∈l→v∈l→f u=f v→u=v
 |[],_,_,_,hu,_,_=>by cases hu
 |w::l,u,v,h,hu,hv,e=>by
  rw[ι,JaJ] at h;rcases Η.1 hu with Me|Me<;>rcases Η.1 hv with TB|TB
  ·rw[Me,TB]
  ·exact absurd (Α.2 ⟨v,TB,by rw[←e,Me]⟩) h.1
  ·exact absurd (Α.2 ⟨u,Me,by rw[e,TB]⟩) h.1
  ·exact kL h.2 Me TB e
def rr (v:VS) (l:List D):VS:=(v.1,l,v.2.2)
def bI (V:List VS) (x:Nm) (l:List D):List VS:=V.map (fun v=>if v.1=x then rr v l else v)
def rings (V:List VS) (f:List D→List D):List VS:=V.map (fun v=>rr v (f v.2.1))
theorem LR {V:List VS} {f:List D→List D} {u:VS} (hu:(V.map (·.1)).Nodup) (hm:u∈V) (h:∀v∈V,¬v.1=u.1→f v.2.1=v.2.1):rings V f=bI V u.1 (f u.2.1):=by
 unfold rings bI;refine JaV (fun v hv=>?_)
 by_cases e:v.1=u.1
 ·have e2:v=u:=kL hu hv hm e;rw[if_pos e,e2]
 ·rw[if_neg e,h v hv e];rfl
theorem gI (V:List VS) (x:Nm) (l:List D):(bI V x l).map (·.1)=V.map (·.1):=by
 unfold bI;rw[List.map_map];refine JaV (fun v _=>?_)
 show(if v.1=x then rr v l else v).1=v.1
 split<;>rfl
def cF (V:List VS) (x:D):Bool:=V.any (fun v=>decide (x∈v.2.1))
def uq (V:List VS) (x:D):Nm:=match V.find? (fun v=>decide (x∈v.2.1)) with|some v=>v.1|none=>(0,0)
def ck (V:List VS) (x:Nm):List D:=match V.find? (fun v=>decide (v.1=x)) with|some v=>v.2.1|none=>[]
def bH (V:List VS) (x:Nm):Bool:=nL (fun v:VS=>v.1) V x
def cx (E:List EC) (x:Nm):Bool:=nL (fun e:EC=>e.1) E x
def fQ (V:List VS) (v:VS):List VS:=fp (fun v:VS=>v.1) V v
def iZ (E:List EC) (e:EC):List EC:=fp (fun e:EC=>e.1) E e
def cK (V:List VS) (x:Nm):List VS:=fo (fun v:VS=>v.1) V x
def eI (E:List EC) (x:Nm):List EC:=fo (fun e:EC=>e.1) E x
def cN (d:D):Nm:=(d.1,d.2.1)
def bg (x:Nm) (s:Int):D:=(x.1,x.2,s)
def eA (G:List Gn) (g:Gn):List Gn:=if (if (G.any fun y=>decide (y.1=g.1))=τ then G.length - 1 else G.length)≥400 then G else nX G g
def ml (V:List VS) (G:List Gn) (c:Nm × D):Nm × D:=(c.1,if ln (cF V) G G.length c.2∈ck V c.1 then ln (cF V) G G.length c.2 else zD)
def dz (V:List VS) (x:D):D:=
 let l:=ck V (uq V x)
 let p:=fm l x
 let q:=if cN p=cN x then fm l p else p
 if cN q=cN x then zD else q
def dw (V:List VS) (c:Nm × D) (x:D):List VS:=bI V c.1 (aJ (lg (ck V c.1) c.2 x))
def dK (V:List VS) (x:D):List VS:=bI V (uq V x) (aJ (ft (ck V (uq V x)) x))
def dP (V:List VS) (o x:D):List VS:=bI V (uq V o) (aJ (rj (ck V (uq V o)) o x))
def cC:SS:=([],[],[])
section
variable (P:List VS→List EC→Bool)
def jk (S:SS) (x:Nm):SS × Int:=
 if bH S.1 x=τ then(cC,12) else if 24≤S.1.length then(cC,3) else((fQ S.1 (x,[],Jaf,0),S.2),0)
def fX (S:SS) (x:Nm):SS × Int:=
 if bH S.1 x=ρ then(cC,13) else if ¬ck S.1 x=[] then(cC,14) else((cK S.1 x,S.2),0)
def jN (S:SS) (x:Nm) (a b:Nm × D):SS × Int:=
 if cx S.2.1 x=τ then(cC,12) else if 40≤S.2.1.length then(cC,3)
 else if bH S.1 a.1=ρ∨bH S.1 b.1=ρ then(cC,13)
 else
  let V1:=dw S.1 (ml S.1 S.2.2 a) (bg x 0)
  let V2:=dw V1 (if b.2=bg x 0 then b else ml S.1 S.2.2 b) (bg x 1)
  if P V2 (iZ S.2.1 (x,Jaf,0))=τ then((V2,iZ S.2.1 (x,Jaf,0),S.2.2),0) else(cC,15)
def iJ (S:SS) (x:Nm):SS × Int:=
 if cx S.2.1 x=ρ then(cC,13)
 else((dK (dK S.1 (bg x 0)) (bg x 1),eI S.2.1 x,eA (eA S.2.2 (bg x 0,dz S.1 (bg x 0))) (bg x 1,dz S.1 (bg x 1))),0)
def gS (S:SS) (x nw ot:Nm) (n:Int):SS × Int:=
 if cx S.2.1 x=ρ then(cC,13)
 else if bH S.1 nw=τ∨cx S.2.1 ot=τ then(cC,12)
 else if 24≤S.1.length∨40≤S.2.1.length then(cC,3)
 else
  let m:=bg x (1 - n.tmod 2)
  let k:=bg ot (n.tdiv 2)
  ((fQ (dP S.1 m (bg ot (1 - n.tdiv 2))) (nw,aJ [m,k],Jaf,0),iZ S.2.1 (ot,Jaf,0),S.2.2),0)
def pV (l:List D) (ot:Nm):Option (D × D):=match l with
 |[a,b]=>if cN a=cN b then ε else if cN a=ot then ζ (b,a) else if cN b=ot then ζ (a,b) else ε
 |_=>ε
def fz (S:SS) (x ot:Nm):SS × Int:=
 if bH S.1 x=ρ then(cC,13)
 else match pV (ck S.1 x) ot with
  |none=>(cC,14)
  |some (a,b)=>
   let far:D:=(b.1,b.2.1,1 - b.2.2)
   ((dP (cK S.1 x) far a,eI S.2.1 ot,eA (eA S.2.2 (bg ot 0,if bg ot 0=far then a else zD)) (bg ot 1,if bg ot 1=far then a else zD)),0)
def nG (V:List VS) (x:Nm) (f:ByteArray × Int→ByteArray × Int):List VS:=V.map (fun v=>if v.1=x then(v.1,v.2.1,f v.2.2) else v)
def rR (E:List EC) (x:Nm) (f:ByteArray × Int→ByteArray × Int):List EC:=E.map (fun e=>if e.1=x then(e.1,f e.2) else e)
def setS (S:SS) (x:Nm) (e:Bool) (f:ByteArray × Int→ByteArray × Int):SS × Int:=
 if e=τ then(if cx S.2.1 x=τ then((S.1,rR S.2.1 x f,S.2.2),0) else(cC,13))
 else if bH S.1 x=τ then((nG S.1 x f,S.2),0) else(cC,13)
end
structure eK (S:SS):Prop where
 vup:sv (fun v:VS=>v.1) S.1
 eup:sv (fun e:EC=>e.1) S.2.1
 once:(S.1.flatMap (fun v=>v.2.1)).Nodup
 turned:∀v∈S.1,aJ v.2.1=v.2.1
 known:∀v∈S.1,∀d∈v.2.1,cx S.2.1 (cN d)=τ∧(d.2.2=0∨d.2.2=1)
 ends:∀e∈S.2.1,cF S.1 (bg e.1 0)=τ∧cF S.1 (bg e.1 1)=τ
theorem eE:∀{V:List VS} {u v:VS} {x:D},(V.flatMap (fun v=>v.2.1)).Nodup→u∈V→v∈V→x∈u.2.1→x∈v.2.1→u=v
 |[],_,_,_,_,hu,_,_,_=>by cases hu
 |w::V,u,v,x,h,hu,hv,h1,h2=>by
  rw[Jby,JaL] at h;obtain⟨ha,hb,hc⟩:=h;rcases Η.1 hu with e1|e1<;>rcases Η.1 hv with e2|e2
  ·rw[e1,e2]
  ·exact absurd rfl (hc x (e1▸h1) x (Jat.2 ⟨v,e2,h2⟩))
  ·exact absurd rfl (hc x (e2▸h2) x (Jat.2 ⟨u,e1,h1⟩))
  ·exact eE hb e1 e2 h1 h2
theorem cU {V:List VS} {x:D}:cF V x=τ↔∃v∈V,x∈v.2.1:=by simp[cF]
theorem uR {α:Type} {p:α→Bool}:∀{l:List α} {u:α},u∈l→p u=τ→(∀v∈l,p v=τ→v=u)→l.find? p=ζ u
 |[],_,hu,_,_=>by cases hu
 |w::l,u,hu,hp,h=>by
  by_cases hw:p w=τ
  ·rw[List.find?_cons_of_pos hw,h w Jai hw]
  ·rw[List.find?_cons_of_neg hw];rcases Η.1 hu with e|e
   ·exact absurd (e▸hp) hw
   ·exact uR e hp (fun v hv=>h v (Jad _ hv))
theorem Df {V:List VS} (h:(V.flatMap (fun v=>v.2.1)).Nodup) {u:VS} (hu:u∈V) {x:D} (hx:x∈u.2.1):uq V x=u.1:=by
 unfold uq;rw[uR (u:=u) hu (decide_eq_true hx) (fun v hv hp=>eE h hv hu (of_decide_eq_true hp) hx)]
theorem jR {V:List VS} (h:(V.map (·.1)).Nodup) {u:VS} (hu:u∈V):ck V u.1=u.2.1:=by
 unfold ck;rw[uR (u:=u) hu (decide_eq_true rfl) (fun v hv hp=>kL h hv hu (of_decide_eq_true hp))]
theorem CX {V:List VS} (hk:(V.map (·.1)).Nodup) (ho:(V.flatMap (fun v=>v.2.1)).Nodup) {x:D} (hx:cF V x=τ) {f:List D→List D} (hf:∀v∈V,¬x∈v.2.1→f v.2.1=v.2.1):
 rings V f=bI V (uq V x) (f (ck V (uq V x))):=by
 obtain⟨u,hu,DC⟩:=cU.1 hx;rw[Df ho hu DC,jR hk hu];exact LR hk hu (fun v hv bQ=>hf v hv (fun q=>bQ (by rw[eE ho hv hu q DC])))
theorem qZ {l:List D} {d:D} (h:¬d∈l):ft l d=l:=by unfold ft;rw[if_neg h]
theorem nk {V:List VS} (hk:(V.map (·.1)).Nodup) (ho:(V.flatMap (fun v=>v.2.1)).Nodup) (ht:∀v∈V,aJ v.2.1=v.2.1) {x:D} (hx:cF V x=τ):rings V (fun l=>aJ (ft l x))=dK V x:=
 CX hk ho hx (fun v hv hn=>by show aJ (ft v.2.1 x)=v.2.1;rw[qZ hn,ht v hv])
theorem yR {L:List D} {i:Nat} (h:i<L.length):L.getD i (0,0,0)=L[i]:=by
 rw[χ,θ h];rfl
def sz (A B:List D):Prop:=∃X Y,A=X++Y∧B=Y++X
theorem sz.symm {A B:List D} (h:sz A B):sz B A:=by
 obtain⟨X,Y,rfl,rfl⟩:=h;exact⟨Y,X,rfl,rfl⟩
theorem sz.trans {A B C:List D} (h:sz A B) (k:sz B C):sz A C:=by
 obtain⟨X,Y,rfl,rfl⟩:=h;obtain⟨U,V,e,rfl⟩:=k;rcases List.append_eq_append_iff.1 e with⟨Z,h1,h2⟩|⟨Z,h1,h2⟩
 ·exact⟨Z,V++Y,by rw[h2];simp,by rw[h1];simp⟩
 ·exact⟨X++U,Z,by rw[h1];simp,by rw[h2];simp⟩
theorem sz.len {A B:List D} (h:sz A B):A.length=B.length:=by
 obtain⟨X,Y,rfl,rfl⟩:=h;simp only[Ε];omega
theorem sz.mem {A B:List D} (h:sz A B) (d:D):d∈A↔d∈B:=by
 obtain⟨X,Y,rfl,rfl⟩:=h;simp only[Jan];exact Or.comm
theorem sz.nodup {A B:List D} (h:sz A B) (n:A.Nodup):B.Nodup:=by
 obtain⟨X,Y,rfl,rfl⟩:=h;rw[JaL] at n ⊢;exact⟨n.2.1,n.1,fun a ha b hb e=>n.2.2 b hb a ha e.symm⟩
theorem sz.filter {A B:List D} (h:sz A B) (p:D→Bool):sz (A.filter p) (B.filter p):=by
 obtain⟨X,Y,rfl,rfl⟩:=h;exact⟨X.filter p,Y.filter p,by simp,by simp⟩
theorem sz.map {A B:List D} (h:sz A B) (f:D→D):sz (A.map f) (B.map f):=by
 obtain⟨X,Y,rfl,rfl⟩:=h;exact⟨X.map f,Y.map f,by simp,by simp⟩
theorem Qi (L:List D) (k:Nat):sz L (L.drop k++L.take k):=⟨L.take k,L.drop k,by simp,rfl⟩
theorem iW (L:List D):sz L (aJ L):=Qi L _
theorem qq (L:List D):∀k,∀j,j<k→oc (L.getD (cG L k) (0,0,0)) (L.getD j (0,0,0))≤0
 |0,j,h=>by omega
 |k+1,j,h=>by
  simp only[cG];split
  ·rename_i eS
   by_cases hj:j=k
   ·subst hj;rw[FR];omega
   ·have:=qq L k j (by omega)
    exact DO _ _ _ (by omega) this
  ·rename_i Pg
   by_cases hj:j=k
   ·subst hj;rw[Am];omega
   ·exact qq L k j (by omega)
theorem DT (L:List D) (h:0<L.length):(aJ L).getD 0 (0,0,0)=L.getD (cG L L.length) (0,0,0):=by
 have hl:=pD L L.length h;unfold aJ;rw[χ,Jab (by simp;omega),JaS,Jac,χ]
theorem xk (L:List D) (h:0<L.length) (d:D) (hd:d∈L):oc ((aJ L).getD 0 (0,0,0)) d≤0:=by
 rw[DT L h];obtain⟨i,hi,he⟩:=List.getElem_of_mem hd
 have:=qq L L.length i hi
 rw[yR hi,he] at this;exact this
theorem Sx {A B:List D} (h:sz A B) (n:A.Nodup) (hd:0<A.length→A.getD 0 (0,0,0)=B.getD 0 (0,0,0)):A=B:=by
 obtain⟨X,Y,rfl,rfl⟩:=h;cases X with
 |nil=>simp
 |cons a X=>
  cases Y with
  |nil=>simp
  |cons b Y=>
   have:a=b:=by simpa using hd (by simp)
   subst this;simp at n
theorem Jw {A B:List D} (h:sz A B) (n:A.Nodup):aJ A=aJ B:=by
 have h1:sz (aJ A) (aJ B):=(iW A).symm.trans (h.trans (iW B));refine Sx h1 ((iW A).nodup n) fun hl=>?_
 rw[ee] at hl;have Uo:0<B.length:=by rw[←h.len];exact hl
 have m1:(aJ A).getD 0 (0,0,0)∈A:=by
  rw[(iW A).mem,yR (by rw[ee];exact hl)];exact Jbs _
 have m2:(aJ B).getD 0 (0,0,0)∈B:=by
  rw[(iW B).mem,yR (by rw[ee];exact Uo)];exact Jbs _
 have a1:=xk A hl _ ((h.mem _).2 m2);have a2:=xk B Uo _ ((h.mem _).1 m1);rw[Am] at a2;exact(xE _ _).1 (by omega)
theorem mw {A:List D} (n:A.Nodup):aJ (aJ A)=aJ A:=(Jw (iW A) n).symm
theorem e7 {L:List D} {d:D}:d∈aJ L↔d∈L:=((iW L).mem d).symm
theorem kJ {L:List D} (h:L.Nodup):(aJ L).Nodup:=(iW L).nodup h
theorem Lb {l:List D} {d:D} (h:d∈l):ft l d=l.eraseIdx (l.idxOf d):=by
 unfold ft;rw[if_pos h,List.eraseIdx_eq_take_drop_succ]
theorem kW (l:List D) (d:D):ft l d=l.erase d:=by
 by_cases h:d∈l
 ·rw[Lb h,List.erase_eq_eraseIdx_of_idxOf rfl]
 ·rw[qZ h,List.erase_of_not_mem h]
theorem jM {l:List D} {d e:D} (h:l.Nodup):e∈ft l d↔e≠d∧e∈l:=by rw[kW];exact h.mem_erase_iff
theorem mY {l:List D} {d:D} (h:l.Nodup):(ft l d).Nodup:=by rw[kW];exact h.erase d
theorem iQ:∀{V:List VS} {v:VS},(V.flatMap (fun v=>v.2.1)).Nodup→v∈V→v.2.1.Nodup
 |[],_,_,hv=>by cases hv
 |w::V,v,h,hv=>by
  rw[Jby,JaL] at h;rcases Η.1 hv with e|e
  ·rw[e];exact h.1
  ·exact iQ h.2.1 e
theorem BA {V:List VS} {x:Nm} {l:List D} (h:¬x∈V.map (·.1)):bI V x l=V:=by
 unfold bI;rw[JaV (g:=id) (fun v hv=>by rw[if_neg (fun e=>h (Α.2 ⟨v,hv,e⟩))];rfl),List.map_id]
theorem kX {V:List VS} {x:Nm} {l:List D} {v:VS} (h:v∈bI V x l):(v∈V∧¬v.1=x)∨∃u∈V,u.1=x∧v=rr u l:=by
 obtain⟨u,hu,rfl⟩:=Α.1 h
 by_cases e:u.1=x
 ·exact .inr ⟨u,hu,e,by show(if u.1=x then rr u l else u)=_;rw[if_pos e]⟩
 ·have e2:(if u.1=x then rr u l else u)=u:=if_neg e;exact .inl ⟨by rw[e2];exact hu,by rw[e2];exact e⟩
theorem EE {x:Nm} {l:List D}:∀{V:List VS},(V.map (·.1)).Nodup→(V.flatMap (fun v=>v.2.1)).Nodup→l.Nodup→(∀d∈l,∀v∈V,¬v.1=x→¬d∈v.2.1)→((bI V x l).flatMap (fun v=>v.2.1)).Nodup
 |[],_,_,_,_=>List.nodup_nil
 |w::V,hk,ho,hl,hd=>by
  rw[ι,JaJ] at hk;rw[Jby,JaL] at ho;obtain⟨o1,o2,o3⟩:=ho;have ih:=EE (x:=x) (l:=l) hk.2 o2 hl (fun d h v hv=>hd d h v (Jad _ hv))
  by_cases e:w.1=x
  ·have e1:bI (w::V) x l=rr w l::V:=by
    have:=BA (V:=V) (x:=x) (l:=l) (e▸hk.1)
    unfold bI at this ⊢;rw[ι,this,if_pos e]
   rw[e1,Jby,JaL]
   refine⟨hl,o2,fun a ha b hb q=>?_⟩
   obtain⟨v,hv,Ru⟩:=Jat.1 hb;have bQ:¬v.1=x:=fun q2=>hk.1 (Α.2 ⟨v,hv,by rw[q2,e]⟩)
   exact hd b (q▸ha) v (Jad _ hv) bQ Ru
  ·have e1:bI (w::V) x l=w::bI V x l:=by
    unfold bI;rw[ι,if_neg e]
   rw[e1,Jby,JaL]
   refine⟨o1,ih,fun a ha b hb q=>?_⟩
   obtain⟨v,hv,Ru⟩:=Jat.1 hb;rcases kX hv with⟨h1,h2⟩|⟨u,hu,h1,h2⟩
   ·exact o3 a ha b (Jat.2 ⟨v,h1,Ru⟩) q
   ·rw[h2] at Ru;exact hd b Ru w Jai e (q▸ha)
theorem zd {V:List VS} {x:Nm} {l:List D} {d:D} (hk:(V.map (·.1)).Nodup) {u:VS} (hu:u∈V) (hux:u.1=x):cF (bI V x l) d=τ↔d∈l∨∃v∈V,¬v.1=x∧d∈v.2.1:=by
 rw[cU];constructor
 ·rintro⟨v,hv,hd⟩;rcases kX hv with⟨h1,h2⟩|⟨w,hw,h1,h2⟩
  ·exact .inr ⟨v,h1,h2,hd⟩
  ·rw[h2] at hd;exact .inl hd
 ·rintro (hd|⟨v,hv,bQ,hd⟩)
  ·exact⟨rr u l,Α.2 ⟨u,hu,if_pos hux⟩,hd⟩
  ·exact⟨v,Α.2 ⟨v,hv,if_neg bQ⟩,hd⟩
structure vq (V:List VS):Prop where
 keys:(V.map (·.1)).Nodup
 once:(V.flatMap (fun v=>v.2.1)).Nodup
 turned:∀v∈V,aJ v.2.1=v.2.1
theorem eK.rg {S:SS} (h:eK S):vq S.1:=⟨h.vup.nodup,h.once,h.turned⟩
theorem vq.at_ {V:List VS} (h:vq V) {x:Nm} {l:List D} (hl:l.Nodup) (ht:aJ l=l) (hd:∀d∈l,∀v∈V,¬v.1=x→¬d∈v.2.1):vq (bI V x l):=
 ⟨by rw[gI];exact h.keys,EE h.keys h.once hl hd,fun v hv=>by
  rcases kX hv with⟨h1,h2⟩|⟨u,hu,h1,h2⟩
  ·exact h.turned v h1
  ·rw[h2];exact ht⟩
theorem vq.rem {V:List VS} (h:vq V) {x:D} (hx:cF V x=τ):vq (dK V x)∧∀d,cF (dK V x) d=τ↔d≠x∧cF V d=τ:=by
 obtain⟨u,hu,DC⟩:=cU.1 hx;have hn:=iQ h.once hu;unfold dK;rw[Df h.once hu DC,jR h.keys hu]
 refine⟨h.at_ (kJ (mY hn)) (mw (mY hn)) (fun d hd v hv bQ q=>?_),fun d=>?_⟩
 ·have h1:=((jM hn).1 (e7.1 hd)).2;exact bQ (by rw[eE h.once hv hu q h1])
 ·rw[zd h.keys hu rfl,e7,jM hn,cU];constructor
  ·rintro (⟨h1,h2⟩|⟨v,hv,bQ,hd⟩)
   ·exact⟨h1,u,hu,h2⟩
   ·exact⟨fun e=>bQ (by rw[eE h.once hv hu hd (e▸DC)]),v,hv,hd⟩
  ·rintro⟨bQ,v,hv,hd⟩
   by_cases e:v.1=u.1
   ·exact .inl ⟨bQ,by rw[←kL h.keys hv hu e];exact hd⟩
   ·exact .inr ⟨v,hv,e,hd⟩
theorem Kw {l:List D} {o x:D} (ho:o∈l) (hx:¬x∈l):rj l o x=l.set (l.idxOf o) x:=by
 unfold rj;rw[if_pos ⟨ho,hx⟩,List.set_eq_take_append_cons_drop,if_pos (List.idxOf_lt_length_of_mem ho)]
theorem zL {l:List D} {o x:D} (hn:l.Nodup) (ho:o∈l) (hx:¬x∈l):rj l o x=l.map (fun d=>if d=o then x else d):=by
 rw[Kw ho hx]
 induction l with
 |nil=>cases ho
 |cons a l ih=>
  rw[JaJ] at hn
  by_cases e:a=o
  ·subst e;rw[List.idxOf_cons_self,List.set_cons_zero,ι,if_pos rfl];congr 1;have h9:l.map (fun d=>if d=a then x else d)=l.map id:=JaV (fun d hd=>if_neg (fun q:d=a=>hn.1 (q▸hd)));rw[h9,List.map_id]
  ·have ZC:o∈l:=(Η.1 ho).resolve_left (fun q=>e q.symm)
   have h8:(a::l).idxOf o=l.idxOf o+1:=by
    rw[List.idxOf_cons,show(a==o)=ρ by simpa using e];rfl
   rw[h8,List.set_cons_succ,ι,if_neg e,ih hn.2 ZC (fun q=>hx (Jad _ q))]
theorem zO {l:List D} {o x d:D} (hn:l.Nodup) (ho:o∈l) (hx:¬x∈l):d∈rj l o x↔d=x∨(d≠o∧d∈l):=by
 rw[zL hn ho hx,Α];constructor
 ·rintro⟨a,ha,rfl⟩
  by_cases e:a=o
  ·rw[if_pos e];exact .inl rfl
  ·rw[if_neg e];exact .inr ⟨e,ha⟩
 ·rintro (rfl|⟨h1,h2⟩)
  ·exact⟨o,ho,if_pos rfl⟩
  ·exact⟨d,h2,if_neg h1⟩
theorem vh {l:List D} {o x:D} (hn:l.Nodup) (ho:o∈l) (hx:¬x∈l):(rj l o x).Nodup:=by
 rw[zL hn ho hx,List.Nodup,Jbg];refine hn.imp_of_mem (fun {a b} ha hb Ad=>?_)
 by_cases e1:a=o<;>by_cases e2:b=o
 ·exact absurd (e1.trans e2.symm) Ad
 ·rw[if_pos e1,if_neg e2];exact fun q=>hx (q▸hb)
 ·rw[if_neg e1,if_pos e2];exact fun q=>hx (q▸ha)
 ·rw[if_neg e1,if_neg e2];exact Ad
theorem xA {l:List D} {a x d:D} (hx:¬x∈l):d∈lg l a x↔d=x∨d∈l:=by
 unfold lg;rw[if_neg hx];obtain⟨j,gj⟩:=az ((max (fI l a) 0).toNat+1);rw[gj,Jan,Η];have h:d∈l↔d∈l.take j∨d∈l.drop j:=by rw[←Jan,Jbf]
 rw[h];constructor
 ·rintro (h|h|h)
  ·exact .inr (.inl h)
  ·exact .inl h
  ·exact .inr (.inr h)
 ·rintro (h|h|h)
  ·exact .inr (.inl h)
  ·exact .inl h
  ·exact .inr (.inr h)
theorem vD {l:List D} {a x:D} (hn:l.Nodup) (hx:¬x∈l):(lg l a x).Nodup:=by
 unfold lg;rw[if_neg hx];obtain⟨j,gj⟩:=az ((max (fI l a) 0).toNat+1);rw[gj];have h1:(l.take j++l.drop j).Nodup:=by rw[Jbf];exact hn
 rw[JaL] at h1 ⊢
 refine⟨h1.1,JaJ.2 ⟨fun q=>hx (List.mem_of_mem_drop q),h1.2.1⟩,fun p hp q hq e=>?_⟩
 rcases Η.1 hq with e2|hq
 ·exact hx (List.mem_of_mem_take (e2▸e▸hp))
 ·exact h1.2.2 p hp q hq e
theorem rV {V:List VS} {x:D} (h:cF V x=ρ) {v:VS} (hv:v∈V):¬x∈v.2.1:=fun q=>by
 have:=cU.2 ⟨v,hv,q⟩
 rw[h] at this;cases this
theorem vq.swp {V:List VS} (h:vq V) {o x:D} (ho:cF V o=τ) (hx:cF V x=ρ):vq (dP V o x)∧∀d,cF (dP V o x) d=τ↔d=x∨(d≠o∧cF V d=τ):=by
 obtain⟨u,hu,SC⟩:=cU.1 ho;have hn:=iQ h.once hu;have DC:=rV hx hu;unfold dP;rw[Df h.once hu SC,jR h.keys hu]
 refine⟨h.at_ (kJ (vh hn SC DC)) (mw (vh hn SC DC)) (fun d hd v hv bQ q=>?_),fun d=>?_⟩
 ·rcases (zO hn SC DC).1 (e7.1 hd) with e|⟨-,h1⟩
  ·exact rV hx hv (e▸q)
  ·exact bQ (by rw[eE h.once hv hu q h1])
 ·rw[zd h.keys hu rfl,e7,zO hn SC DC,cU];constructor
  ·rintro ((h1|⟨h1,h2⟩)|⟨v,hv,bQ,hd⟩)
   ·exact .inl h1
   ·exact .inr ⟨h1,u,hu,h2⟩
   ·exact .inr ⟨fun e=>bQ (by rw[eE h.once hv hu hd (e▸SC)]),v,hv,hd⟩
  ·rintro (h1|⟨bQ,v,hv,hd⟩)
   ·exact .inl (.inl h1)
   ·by_cases e:v.1=u.1
    ·exact .inl (.inr ⟨bQ,by rw[←kL h.keys hv hu e];exact hd⟩)
    ·exact .inr ⟨v,hv,e,hd⟩
theorem vq.ins {V:List VS} (h:vq V) {c:Nm × D} {x:D} (hc:bH V c.1=τ) (hx:cF V x=ρ):vq (dw V c x)∧∀d,cF (dw V c x) d=τ↔d=x∨cF V d=τ:=by
 obtain⟨u,hu,hcu⟩:=cT.1 hc;have hn:=iQ h.once hu;have DC:=rV hx hu;unfold dw;rw[←hcu,jR h.keys hu]
 refine⟨h.at_ (kJ (vD hn DC)) (mw (vD hn DC)) (fun d hd v hv bQ q=>?_),fun d=>?_⟩
 ·rcases (xA DC).1 (e7.1 hd) with e|h1
  ·exact rV hx hv (e▸q)
  ·exact bQ (by rw[eE h.once hv hu q h1])
 ·rw[zd h.keys hu rfl,e7,xA DC,cU];constructor
  ·rintro ((h1|h2)|⟨v,hv,bQ,hd⟩)
   ·exact .inl h1
   ·exact .inr ⟨u,hu,h2⟩
   ·exact .inr ⟨v,hv,hd⟩
  ·rintro (h1|⟨v,hv,hd⟩)
   ·exact .inl (.inl h1)
   ·by_cases e:v.1=u.1
    ·exact .inl (.inr (by rw[←kL h.keys hv hu e];exact hd))
    ·exact .inr ⟨v,hv,e,hd⟩
theorem om {V W:List VS} (h:sv (fun v:VS=>v.1) V) (e:W.map (·.1)=V.map (·.1)):sv (fun v:VS=>v.1) W:=by
 unfold sv at h ⊢;have h1:(V.map (·.1)).Pairwise (fun a b=>eN a b<0):=Jbg.2 h;rw[←e] at h1;exact Jbg.1 h1
theorem mM (V:List VS) (o x:D):(dP V o x).map (·.1)=V.map (·.1):=gI _ _ _
theorem mT (V:List VS) (x:D):(dK V x).map (·.1)=V.map (·.1):=gI _ _ _
theorem qz (V:List VS) (c:Nm × D) (x:D):(dw V c x).map (·.1)=V.map (·.1):=gI _ _ _
theorem mF {V W:List VS} (e:W.map (·.1)=V.map (·.1)) (x:Nm):bH W x=bH V x:=by
 have h:∀U:List VS,bH U x=(U.map (·.1)).any (fun k=>decide (k=x)):=fun U=>by
  unfold bH nL;rw[List.any_map];rfl
 rw[h,h,e]
theorem eK.mk_ {V:List VS} {E:List EC} {G:List Gn} (hv:sv (fun v:VS=>v.1) V) (he:sv (fun e:EC=>e.1) E) (hr:vq V) (hk:∀d,cF V d=τ→cx E (cN d)=τ∧(d.2.2=0∨d.2.2=1)) (UP:∀x,cx E x=τ→cF V (bg x 0)=τ∧cF V (bg x 1)=τ):eK (V,E,G):=
 ⟨hv,he,hr.once,hr.turned,fun v h d hd=>hk d (cU.2 ⟨v,h,hd⟩),fun e h=>UP e.1 (cT.2 ⟨e,h,rfl⟩)⟩
theorem eK.std {S:SS} (h:eK S) {d:D} (hd:cF S.1 d=τ):cx S.2.1 (cN d)=τ∧(d.2.2=0∨d.2.2=1):=by
 obtain⟨v,hv,hd⟩:=cU.1 hd;exact h.known v hv d hd
theorem eK.end_ {S:SS} (h:eK S) {x:Nm} (hx:cx S.2.1 x=τ):cF S.1 (bg x 0)=τ∧cF S.1 (bg x 1)=τ:=by
 obtain⟨e,he,rfl⟩:=cT.1 hx;exact h.ends e he
theorem eK.no_ {S:SS} (h:eK S) {d:D} (hx:cx S.2.1 (cN d)=ρ):cF S.1 d=ρ:=by
 cases hq:cF S.1 d with
 |false=>rfl
 |true=>have:=(h.std hq).1;rw[hx] at this;cases this
theorem ki {d:D} {x:Nm} {s:Int} (h1:cN d=x) (h2:d.2.2=s):d=bg x s:=by
 obtain⟨a,b,c⟩:=d;subst h1;subst h2;rfl
theorem sh {E:List EC} {x y:Nm}:cx (eI E x) y=τ↔y≠x∧cx E y=τ:=by
 unfold cx eI;rw[cT,cT];constructor
 ·rintro⟨e,he,rfl⟩;obtain⟨h1,h2⟩:=JaC.1 he;exact⟨of_decide_eq_true h2,e,h1,rfl⟩
 ·rintro⟨bQ,e,he,rfl⟩;exact⟨e,JaC.2 ⟨he,decide_eq_true bQ⟩,rfl⟩
theorem jV {E:List EC} {e:EC} {y:Nm}:cx (iZ E e) y=τ↔y=e.1∨cx E y=τ:=by
 unfold cx iZ;rw[cT,cT];constructor
 ·rintro⟨u,hu,rfl⟩;rcases dL.1 hu with rfl|h
  ·exact .inl rfl
  ·exact .inr ⟨u,h,rfl⟩
 ·rintro (rfl|⟨u,hu,rfl⟩)
  ·exact⟨e,dL.2 (.inl rfl),rfl⟩
  ·exact⟨u,dL.2 (.inr hu),rfl⟩
theorem eK.unlink {S:SS} (h:eK S) {x:Nm} (hx:cx S.2.1 x=τ) (G:List Gn):eK (dK (dK S.1 (bg x 0)) (bg x 1),eI S.2.1 x,G):=by
 obtain⟨h0,h1⟩:=h.end_ hx;obtain⟨r1,m1⟩:=h.rg.rem h0
 have bQ:bg x 1≠bg x 0:=fun e=>by
  have:(1:Int)=0:=congrArg (fun d:D=>d.2.2) e
  omega
 obtain⟨r2,m2⟩:=r1.rem ((m1 _).2 ⟨bQ,h1⟩);refine eK.mk_ (om h.vup (by rw[mT,mT])) (qY h.eup) r2 (fun d hd=>?_) (fun y hy=>?_)
 ·obtain⟨n1,hd⟩:=(m2 d).1 hd;obtain⟨n0,hd⟩:=(m1 d).1 hd;obtain⟨k1,k2⟩:=h.std hd
  refine⟨sh.2 ⟨fun e=>?_,k1⟩,k2⟩
  rcases k2 with k2|k2
  ·exact n0 (ki e k2)
  ·exact n1 (ki e k2)
 ·obtain⟨I5,hy⟩:=sh.1 hy;obtain⟨q0,q1⟩:=h.end_ hy;have Xt:∀s t:Int,bg y s≠bg x t:=fun s t e=>I5 (congrArg cN e)
  exact⟨(m2 _).2 ⟨Xt _ _,(m1 _).2 ⟨Xt _ _,q0⟩⟩,(m2 _).2 ⟨Xt _ _,(m1 _).2 ⟨Xt _ _,q1⟩⟩⟩
end Go.Proofs.YtpdpbfmiahjiiaaGreat
