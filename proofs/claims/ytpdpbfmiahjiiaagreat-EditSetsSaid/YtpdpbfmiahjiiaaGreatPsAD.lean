/- Several texts in one. -/
import Derived.Test.YtpdpbfmiahjiiaaGreatPsAB
import Derived.Test.YtpdpbfmiahjiiaaGreatPsAC
set_option linter.unusedSectionVars false
set_option linter.unusedSimpArgs false
set_option linter.unusedVariables false
set_option maxRecDepth 100000
set_option maxHeartbeats 16000000
namespace Go.Proofs.YtpdpbfmiahjiiaaGreat
open Go.RowKit
open _root_.Go.Value renaming slice→γ
open _root_.Go.Obj renaming cells→δ
open _root_.Option renaming none→ε,some→ζ
open _root_.Go.Proofs.Tryz renaming prog→η
open _root_.List renaming map_cons→ι,getD_eq_getElem?_getD→χ,mem_map→Α,length_append→Ε,mem_cons→Η,take_of_length_le→Ι,mem_cons_of_mem→Jad,mem_cons_self→Jai,mem_flatMap→Jat,nodup_cons→JaJ,nodup_append→JaL,map_congr_left→JaV,getElem_mem→Jbs,flatMap_cons→Jby,pairwise_cons→JbM
open _root_.Go renaming World→ο,maxLen→Jap
open _root_.Bool renaming false→ρ,true→τ
open _root_.Go.RowKit renaming Below→σ
open _root_.Nat renaming le_refl→Δ,zero_le→Jas
open _root_.ByteArray renaming empty→Jaf
def ja (L:List D) (a d:D):List D:=if d∈L then L else L.take ((max (fC L a) 0).toNat+1)++d::L.drop ((max (fC L a) 0).toNat+1)
theorem j3 {L:List D} {d:D} (h:d∈L):fC L d=(L.idxOf d:Int)∧L.idxOf d<L.length:=⟨by rw[fC,if_pos h],List.idxOf_lt_length_of_mem h⟩
theorem lK {L:List D} {d:D} (h:¬d∈L):fC L d= -1:=by rw[fC,if_neg h]
theorem PO (L:List D) (d:D):-1≤fC L d∧fC L d<L.length+1∧(0≤fC L d↔d∈L)∧(0<L.length→fC L d<L.length):=by
 by_cases h:d∈L
 ·obtain⟨e1,e2⟩:=j3 h;rw[e1]
  refine⟨by omega,by omega,⟨fun _=>h,fun _=>by omega⟩,fun _=>by omega⟩
 ·rw[lK h]
  refine⟨by omega,by omega,⟨fun h'=>absurd h' (by omega),fun h'=>absurd h' h⟩,fun _=>by omega⟩
def GivesC (w:ο) (L:List D) (e:Ending) (w':ο):Prop:=
 ∃A c,e=.returned (γ A L.length c)∧bg w' w'.heap.size 3 A L.length c (aA L)∧σ w.heap.size w w'∧c≤Jap
theorem rfturnc_any (A:Option Addr) (n c:Nat) (L:List D) (w:ο) (h:bg w w.heap.size 3 A n c (aA L)) (hn:n≤1000000):
 Calls η 79 #[γ A n c] w (GivesC w (aM L)):=by
 obtain⟨i0,hi,qJ,ly,kK⟩:=info_parts zv;have HR:=qh h;have hl:=h.dlen;subst hl;clear h;go_enter Tryz.func79,Tryz.ntmps79;go_wp2;go_loopw [3,4] (fun lv i wr=>∃k:Nat,k≤L.length∧i=J k∧lv=J (cD L k:Int)∧σ w.heap.size w wr) (fun _ i _=>L.length - (intOf i).toNat)
 case atStart=>exact⟨0,Jas _,rfl,rfl,Below.refl _ _⟩
 case round=>
  obtain⟨k2,rC,rfl,rfl,bC⟩:=hrel;have nf:=qh bC
  by_cases RM:k2<L.length
  ·obtain⟨b,off,rfl,hb,hc⟩:=(HR.out.up bC bC.size).darts (by omega);obtain⟨d1,d2,d3⟩:=hc k2 RM;have GV:=mU L k2;have Mg:cD L k2<L.length:=by omega
   obtain⟨e1,e2,e3⟩:=hc (cD L k2) Mg;have hs:cD L (k2+1)=if pA (L.getD k2 (0,0,0)) (L.getD (cD L k2) (0,0,0))<0 then k2 else cD L k2:=rfl
   obtain⟨m,gm⟩:=aB (cD L k2);rw[gm] at e1 e2 e3 GV Mg hs ⊢;obtain⟨x,gx⟩:=aB (L.getD k2 (0,0,0));obtain⟨y,gy⟩:=aB (L.getD m (0,0,0));rw[gx] at d1 d2 d3 hs;rw[gy] at e1 e2 e3 hs;have HOr:=oU x.1 x.2.1 x.2.2 y.1 y.2.1 y.2.2;have ho:jS x.1 x.2.1 x.2.2 y.1 y.2.1 y.2.2=pA x y:=rfl;obtain⟨ov,tJ⟩:=aB (pA x y);rw[ho,tJ] at HOr;rw[tJ] at hs;have Lp:=qh HOr;have HS:=qh hs;clear hc gm gx gy ho tJ HOr hs;go_upto_region 5 with fail
   have g0:=cz d1;have g1:=cz d2;have g2:=cz d3;have g3:=cz e1;have g4:=cz e2;have g5:=cz e3;have hE:Hid (σ w.heap.size w wr.drew):=nf.out.drew;clear bC
   by_cases ho:ov<0
   ·rw[if_pos ho] at HS;refine ay (aO) (by kernel_rfl) ?_;refine aa 0 ?_;refine aa 1 ?_;refine aa 2 ?_;refine aa 3 ?_;refine aa 4 ?_;refine aa 5 ?_;refine aa 6 ?_;refine aa 7 ?_;refine cV 8 (hy:=by apply bP;rfl;rotate_left;intro w' aC;exact Lp.out w';intro w';go_simp) (h:=?_);refine aa 9 ?_;refine aF (by kernel_rfl) ?_ _;intro w' aC;have DV:Hid (σ w.heap.size w w'):=hE.out.trans (aC.mono hE.out.size);clear g0 g1 g2 g3 g4 g5 aC d1 d2 d3 e1 e2 e3;go_wp2;go_roundw
    case rel=>exact⟨k2+1,by omega,by go_num,by rw[HS.out],DV.out⟩
    case measure=>simp[intOf];omega
   ·rw[if_neg ho] at HS;refine ay (aO) (by kernel_rfl) ?_;refine aa 0 ?_;refine aa 1 ?_;refine aa 2 ?_;refine aa 3 ?_;refine aa 4 ?_;refine aa 5 ?_;refine aa 6 ?_;refine aa 7 ?_;refine cV 8 (hy:=by apply bP;rfl;rotate_left;intro w' aC;exact Lp.out w';intro w';go_simp) (h:=?_);refine aa 9 ?_;refine aF (by kernel_rfl) ?_ _;intro w' aC;have DV:Hid (σ w.heap.size w w'):=hE.out.trans (aC.mono hE.out.size);clear g0 g1 g2 g3 g4 g5 aC d1 d2 d3 e1 e2 e3;go_wp2;go_roundw
    case rel=>exact⟨k2+1,by omega,by go_num,by rw[HS.out],DV.out⟩
    case measure=>simp[intOf];omega
  ·have hkl:k2=L.length:=by omega
   subst hkl;have GV:=mU L L.length;have ht:=JF L;have hlen:=kB L;obtain⟨R,gR⟩:=aB (aM L);obtain⟨m,gm⟩:=aB (cD L L.length);rw[gm,gR] at ht;rw[gR] at hlen;rw[gm] at GV ⊢;have GR:=qh gR;have HT:=qh ht;have Zd:=qh hlen;clear ht gm gR hlen;obtain⟨W1,rfl⟩:∃x:ο,x=wr:=⟨_,rfl⟩
   have HO:Hid (Ow w w.heap.size 32 3 (γ (ζ ⟨W1.heap.size,0,ε⟩) 0 0) 0 [] (W1.alloc (δ #[] 32))):=Ow.new_ (cs:=#[]) nf.out (Δ _) nf.out.size (Jas _) rfl;clear bC;go_wp2;go_loopw [5,6] (fun v i wr=>∃k:Nat,k≤L.length∧i=J k∧Ow w w.heap.size 32 3 v (R.take k).length (aA (R.take k)) wr) (fun _ i _=>L.length - (intOf i).toNat)
   case atStart=>exact⟨0,Jas _,rfl,HO.out⟩
   case round=>
    clear HO;obtain⟨k,hk,rfl,iC⟩:=hrel;have HO:=qh iC
    by_cases dz:k<L.length
    ·obtain⟨b,off,rfl,hb,hc⟩:=(HR.out.up iC.below iC.below.size).darts (by omega);have hj:(m+k) % L.length<L.length:=Nat.mod_lt _ (by omega);have Fq:((m:Int)+(k:Int)) % (L.length:Int)=(((m+k) % L.length:Nat):Int):=by rw[Int.natCast_emod,Int.natCast_add]
     have hx:=HT.out k dz;obtain⟨j,gj⟩:=aB ((m+k) % L.length);rw[gj] at hj Fq hx;obtain⟨c1,c2,c3⟩:=hc j hj;obtain⟨x,gx⟩:=aB (L.getD j (0,0,0));rw[gx] at c1 c2 c3 hx;have HX:=qh hx;have Yi:=qh (EG R k (by rw[Zd.out];exact dz))
     have hlk:(R.take k).length≤1000000:=by
      have:=List.length_take_le k R
      omega
     clear hc iC gj gx hx
     go_wp2_with (first
      |(at_builtin
        refine oQ rfl (.tmp 31) (.tmp 41) _ rfl _ 32 i0 _ 3 24 Tryz.underlying57 hi qJ ly kK rfl (by decide) _ _ _ rfl (by exact HO.out.up (az _ _)) _ (ζ ⟨wr.heap.size,0,ε⟩) 1 1 (aA [x]) rfl (by exact bg.whole3 (L:=[x]) (Whole.new_ _ _ _)) (im [x]) (by unfold Jap;omega) (by omega) ?_;intro v1 w1 fh cP;have nb:=qh fh;clear fh cP))
     go_roundw
     case rel=>
      refine⟨k+1,by omega,by go_num,?_⟩
      rw[Yi.out,HX.out,Ε,fM];exact nb.out
     case measure=>simp[intOf];omega
    ·have YX:R.take k=R:=Ι (by rw[Zd.out];omega);rw[YX] at HO;clear iC YX;obtain⟨A1,c1,hv,GS⟩:=HO.out.rds;subst hv;have lR:=qh GS;clear GS;go_wp2;go_ret;rw[GR.out];exact⟨A1,c1,rfl,lR.out,HO.out.below,nB HO.out.own⟩
theorem filter_snoc (L:List D) (d:D) (k:Nat) (h:k<L.length):(L.take (k+1)).filter (fun x=>decide (x≠d))=(L.take k).filter (fun x=>decide (x≠d))++if L.getD k (0,0,0)=d then[] else[L.getD k (0,0,0)]:=by
 rw[EG L k h,List.filter_append];generalize L.getD k (0,0,0)=x
 by_cases e:x=d
 ·rw[if_pos e];simp[e]
 ·rw[if_neg e];simp[e]
def kt (L:List D) (d:D):List D:=L.filter fun x=>decide (x≠d)
theorem rfremovec_any (A:Option Addr) (n c:Nat) (L:List D) (d:D) (w:ο) (h:bg w w.heap.size 3 A n c (aA L)) (hn:n≤999000):
 Calls η 102 #[γ A n c,.agg #[J d.1,J d.2.1,J d.2.2]] w (GivesC w (aM (kt L d))):=by
 obtain⟨i0,hi,qJ,ly,kK⟩:=info_parts zv;have HT:=qh (fun A n c L W h hn=>rfturnc_any A n c L W h hn);have HR:=qh h;have hl:=h.dlen;subst hl
 have h00:(Ow w (w.heap.size+1) 32 3 (γ (ζ ⟨w.heap.size+1,0,ε⟩) 0 0) 0 [] ((w.alloc (δ #[J d.1,J d.2.1,J d.2.2] 32)).alloc (δ #[] 32))):=by
  have:=Ow.new_ (e:=32) (size:=3) (cs:=#[]) (az w (δ #[J d.1,J d.2.1,J d.2.2] 32)) (B:=w.heap.size+1) (by omega) (by simp) (n:=0) (Jas _) rfl
  simpa using this
 have hO0:=qh h00;have M4:Hid (Whole ((w.alloc (δ #[J d.1,J d.2.1,J d.2.2] 32)).alloc (δ #[] 32)) w.heap.size 32 (aA [d])):=(Whole.new_ w _ (aA [d])).alloc _;clear h h00;go_enter Tryz.func102,Tryz.ntmps102;go_wp2;go_loopw [5,6] (fun v i wr=>∃k:Nat,k≤L.length∧i=J k∧Ow w (w.heap.size+1) 32 3 v ((L.take k).filter (fun x=>decide (x≠d))).length (aA ((L.take k).filter (fun x=>decide (x≠d)))) wr∧Whole wr w.heap.size 32 (aA [d])) (fun _ i _=>L.length - (intOf i).toNat)
 case atStart=>exact⟨0,Jas _,rfl,hO0.out,M4.out⟩
 case round=>
  clear hO0 M4;obtain⟨k,hk,rfl,iC,hd⟩:=hrel;have HO:=qh iC;have HD:=qh hd
  by_cases dz:k<L.length
  ·obtain⟨b,off,rfl,hb,hc⟩:=(HR.out.up iC.below iC.below.size).darts (by omega);obtain⟨c1,c2,c3⟩:=hc k dz
   have hfl:((L.take k).filter (fun x=>decide (x≠d))).length≤1000000:=by
    have:=List.length_filter_le (fun x=>decide (x≠d)) (L.take k)
    have:=List.length_take_le k L
    omega
   have hf:=filter_snoc L d k dz;obtain⟨x,gx⟩:=aB (L.getD k (0,0,0));rw[gx] at c1 c2 c3 hf;have d0:=hd.cell (i:=0) rfl;have d1:=hd.cell (i:=1) rfl;have d2:=hd.cell (i:=2) rfl;have hq:=nz x d;obtain⟨F,gF⟩:=aB ((L.take k).filter (fun x=>decide (x≠d)));rw[gF] at HO hf hfl;have HF:=qh hf;clear hc iC gx gF hf hd
   by_cases he:x=d
   ·have Rs:(!decide (x=d))=ρ:=by simpa using he
    rw[Rs] at hq;rw[if_pos he,List.append_nil] at HF;clear he Rs;go_wp2;go_quiet (fail);go_wp2;go_roundw
    case rel=>
     refine⟨k+1,by omega,by go_num,?_,HD.out.at_ rfl⟩
     rw[HF.out];exact HO.out.up (below_drewN _ _ _)
    case measure=>simp[intOf];omega
   ·have Rs:(!decide (x=d))=τ:=by simpa using he
    rw[Rs] at hq;rw[if_neg he] at HF;clear he Rs;go_wp2;go_quiet (fail)
    go_wp2_with (first
     |(at_builtin
       refine oQ rfl (.tmp 20) (.tmp 25) _ rfl _ 32 i0 _ 3 24 Tryz.underlying57 hi qJ ly kK rfl (by decide) _ _ _ rfl (by exact(HO.out.up (below_drewN _ _ _)).up (az _ _)) _ (ζ ⟨wr.heap.size,0,ε⟩) 1 1 (aA [x]) rfl (by exact bg.whole3 (L:=[x]) (Whole.new2 (by simp))) (im [x]) (by unfold Jap;omega) (by omega) ?_;intro v1 w1 fh cP;have nb:=qh fh;have Ry:Hid (Whole w1 w.heap.size 32 (aA [d])):=(Whole.at_ (Whole.alloc (HD.out.at_ rfl) _) (cP.block _ (by omega)));clear fh cP))
    go_roundw
    case rel=>
     refine⟨k+1,by omega,by go_num,?_,Ry.out⟩
     rw[HF.out,Ε,fM];exact nb.out
    case measure=>simp[intOf];omega
  ·have YX:(L.take k).filter (fun x=>decide (x≠d))=kt L d:=by rw[Ι (by omega)];rfl
   rw[YX] at HO
   have hfl:(kt L d).length≤1000000:=by
    have:=List.length_filter_le (fun x=>decide (x≠d)) L
    unfold kt;omega
   clear iC YX hd;obtain⟨A1,c1,hv,GS⟩:=HO.out.rds;subst hv;have lR:=qh GS;clear GS
   go_wp2_with (first
    |(go_at_call 79;refine(HT.out _ _ _ _ _ (by exact lR.out) hfl).mono ?_;rintro e w2 ⟨A2,c2,rfl,oJ,aP,qB⟩;have HC2:=qh qB;clear qB;have bG:=qh aP;have R2:=qh oJ;clear aP oJ))
   go_ret;exact⟨A2,c2,rfl,R2.out,HO.out.below.trans (bG.out.mono HO.out.below.size),HC2.out⟩
def insP (L:List D) (d:D) (j i:Nat):List D:=if i≤j then L.take i else L.take (j+1)++d::(L.take i).drop (j+1)
theorem insP_lt {L:List D} {d:D} {j i:Nat} (h:i<L.length) (hj:i<j):insP L d j (i+1)=insP L d j i++[L.getD i (0,0,0)]:=by
 rw[insP,insP,if_pos (by omega),if_pos (by omega),EG L i h]
theorem insP_eq {L:List D} {d:D} {j:Nat} (h:j<L.length):insP L d j (j+1)=insP L d j j++[L.getD j (0,0,0)]++[d]:=by
 rw[insP,insP,if_neg (by omega),if_pos (by omega),EG L j h,List.drop_of_length_le (by simp;omega)]
theorem insP_gt {L:List D} {d:D} {j i:Nat} (h:i<L.length) (hj:j<i):insP L d j (i+1)=insP L d j i++[L.getD i (0,0,0)]:=by
 rw[insP,insP,if_neg (by omega),if_neg (by omega),EG L i h,List.drop_append_of_le_length (by simp;omega)];simp
theorem insP_len (L:List D) (d:D) (j i:Nat):(insP L d j i).length≤L.length+2:=by
 unfold insP;split
 ·have:=List.length_take_le i L
  have:(L.take i).length≤L.length:=by simp;omega
  omega
 ·simp;omega
theorem insP_all {L:List D} {d:D} {j:Nat} (h:j<L.length):insP L d j L.length=L.take (j+1)++d::L.drop (j+1):=by
 rw[insP,if_neg (by omega),List.take_length]
theorem rfinsertc_any (A:Option Addr) (n c:Nat) (L:List D) (a d:D) (w:ο) (h:bg w w.heap.size 3 A n c (aA L)) (hn:n≤999000):
 Calls η 100 #[γ A n c,.agg #[J a.1,J a.2.1,J a.2.2],.agg #[J d.1,J d.2.1,J d.2.2]] w (GivesC w (aM (ja L a d))):=by
 obtain⟨i0,hi,qJ,ly,kK⟩:=info_parts zv;have HI:=qh (fun x W h=>oN A n c L x W h (by omega));have HT:=qh (fun A n c L W h hn=>rfturnc_any A n c L W h hn);have HR:=qh h;have hl:=h.dlen;subst hl;obtain⟨W0,bO⟩:=aB ((w.alloc (δ #[J a.1,J a.2.1,J a.2.2] 32)).alloc (δ #[J d.1,J d.2.1,J d.2.2] 32));have fp:σ w.heap.size w W0:=by rw[←bO];exact cr _ _ _
 have Ye:W0.heap.size=w.heap.size+2:=by rw[←bO];simp
 have O3:Whole W0 w.heap.size 32 (aA [a]):=by rw[←bO];exact(Whole.new_ w _ (aA [a])).alloc _
 have M4:Whole W0 (w.heap.size+1) 32 (aA [d]):=by
  rw[←bO];exact Whole.new2 (cs:=aA [d]) (by simp)
 have B0:=qh fp;have S0:=qh Ye;have AA:=qh O3;have DD:=qh M4;have a0:=O3.cell (i:=0) rfl;have a1:=O3.cell (i:=1) rfl;have a2:=O3.cell (i:=2) rfl;have d0:=M4.cell (i:=0) rfl;have d1:=M4.cell (i:=1) rfl;have d2:=M4.cell (i:=2) rfl;have GW:=qh bO;have Xs:=qh (HI.out a);have Zn:=qh (HI.out d);have tok:True:=trivial;clear h bO fp O3 M4 HI Ye
 by_cases hd:d∈L
 ·have e1:ja L a d=L:=by rw[ja,if_pos hd]
  obtain⟨i1,i2⟩:=j3 hd;rw[i1] at Zn;obtain⟨k,gk⟩:=aB (L.idxOf d);rw[gk] at Zn;have E1:=qh e1;clear e1 i1 i2 gk hd;go_enter Tryz.func100,Tryz.ntmps100;go_upto_region 1 with fail
  rw[GW.out]
  go_wp2_with (first
   |(go_at_call 33;refine(Zn.out _ (by exact HR.out.up B0.out B0.out.size)).mono ?_;rintro e w2 ⟨rfl,aP⟩;have B2:=qh (B0.out.trans (aP.mono B0.out.size));clear aP)
   |(go_at_call 79;refine(HT.out _ _ _ _ _ (by exact HR.out.up B2.out B2.out.size) (by omega)).mono ?_;rintro e w3 ⟨A2,c2,rfl,mg,bA,hc3⟩))
  go_ret;rw[E1.out];exact⟨A2,c2,rfl,mg,B2.out.trans (bA.mono B2.out.size),hc3⟩
 ·have e1:ja L a d=L.take ((max (fC L a) 0).toNat+1)++d::L.drop ((max (fC L a) 0).toNat+1):=by rw[ja,if_neg hd]
  rw[lK hd] at Zn;obtain⟨i1,i2,i3,i4⟩:=PO L a;obtain⟨k,gk⟩:=aB (fC L a);rw[gk] at Xs e1 i1 i2 i4;have vj:∃j:Nat,max k 0=(j:Int)∧(0<L.length→j<L.length):=⟨(max k 0).toNat,by omega,by omega⟩
  obtain⟨j,hj,KJ⟩:=vj;rw[hj,Int.toNat_natCast] at e1;have E1:=qh e1;have HJ:=qh hj;have HJ2:=qh KJ;have hkb:k≤1000000:=by omega
  clear e1 i2 i3 i4 gk hd hj KJ;go_enter Tryz.func100,Tryz.ntmps100;go_upto_region 1 with fail
  rw[GW.out]
  go_upto_region 3 with (first
   |(go_at_call 33;have _t:=tok;refine(Zn.out _ (by exact HR.out.up B0.out B0.out.size)).mono ?_;rintro e w2 ⟨rfl,aP⟩;have B2:=qh (B0.out.trans (aP.mono B0.out.size));have S2:=qh aP.size;have A2:=qh (AA.out.below aP);have D2:=qh (DD.out.below aP);have q0:=A2.out.cell (i:=0) rfl;have q1:=A2.out.cell (i:=1) rfl;have q2:=A2.out.cell (i:=2) rfl;clear aP tok))
  clear a0 a1 a2 d0 d1 d2;go_cut [7] (fun v x=>v=J (j:Int)∧σ w.heap.size w x∧w.heap.size+2≤x.heap.size∧Whole x (w.heap.size+1) 32 (aA [d]))
  case first=>
   by_cases BD:0<k
   ·have vW:k=j:=by have:=HJ.out;omega
    have oM:=qh vW;clear vW
    go_wp2_with (first
     |(go_at_call 33;refine(Xs.out _ (by exact HR.out.up B2.out B2.out.size)).mono ?_;rintro e w3 ⟨rfl,bA⟩;have B3:=qh (B2.out.trans (bA.mono B2.out.size));have S3:=qh bA.size;have D3:=qh (D2.out.below bA);clear bA))
    go_meet;exact⟨by(have:=HJ.out;rw[show max 0 k=(j:Int) by omega]),B3.out,by have:=S0.out;have:=S2.out;have:=S3.out;omega,D3.out⟩
   ·have vW:(0:Int)=j:=by have:=HJ.out;omega
    have oM:=qh vW;clear vW
    go_wp2_with (first
     |(go_at_call 33;refine(Xs.out _ (by exact HR.out.up B2.out B2.out.size)).mono ?_;rintro e w3 ⟨rfl,bA⟩;have B3:=qh (B2.out.trans (bA.mono B2.out.size));have S3:=qh bA.size;have D3:=qh (D2.out.below bA);clear bA))
    go_meet;exact⟨by(have:=HJ.out;rw[show max 0 k=(j:Int) by omega]),B3.out,by have:=S0.out;have:=S2.out;have:=S3.out;omega,D3.out⟩
  case rest=>
  obtain⟨rfl,Tv,hsc,DY⟩:=hcut;have hO0:=qh (Ow.new_ (e:=32) (size:=3) (cs:=#[]) Tv (B:=w.heap.size+2) (by omega) hsc (n:=0) (Jas _) rfl);have M4:=qh (Whole.alloc DY (δ #[] 32));clear Tv hsc DY q0 q1 q2;obtain⟨W1,rfl⟩:∃x:ο,x=wc:=⟨_,rfl⟩
  go_wp2;go_loopw [8,9] (fun v i wr=>∃k:Nat,k≤L.length∧i=J k∧Ow w (w.heap.size+2) 32 3 v (insP L d j k).length (aA (insP L d j k)) wr∧Whole wr (w.heap.size+1) 32 (aA [d])) (fun _ i _=>L.length - (intOf i).toNat)
  case atStart=>exact⟨0,Jas _,rfl,hO0.out,M4.out⟩
  case round=>
   clear hO0 M4;obtain⟨i,zf,rfl,iC,hd⟩:=hrel;have HO:=qh iC;have HD:=qh hd;have hlen:=insP_len L d j i
   by_cases dz:i<L.length
   ·obtain⟨b,off,rfl,hb,hc⟩:=(HR.out.up iC.below iC.below.size).darts (by omega);obtain⟨c1,c2,c3⟩:=hc i dz;have hlt':=HJ2.out (by omega);have p1:i<j→insP L d j (i+1)=insP L d j i++[L.getD i (0,0,0)]:=fun h=>insP_lt dz h
    have p2:i=j→insP L d j (i+1)=insP L d j i++[L.getD i (0,0,0)]++[d]:=fun h=>by subst h;exact insP_eq dz
    have p3:j<i→insP L d j (i+1)=insP L d j i++[L.getD i (0,0,0)]:=fun h=>insP_gt dz h
    obtain⟨x,gx⟩:=aB (L.getD i (0,0,0));rw[gx] at c1 c2 c3 p1 p2 p3;obtain⟨F,gF⟩:=aB (insP L d j i);rw[gF] at HO p1 p2 p3 hlen;have P1:=qh p1;have P2:=qh p2;have P3:=qh p3;have tokp:True:=trivial;clear hc iC gx gF p1 p2 p3 hd
    by_cases ur:i=j
    ·have hij':((i:Int)==(j:Int))=τ:=by rw[beq_iff_eq];omega
     have hp:=qh (P2.out ur);have HIJ:=qh ur;clear ur
     go_wp2_with (first
      |(at_builtin
        have _t:=tokp;refine oQ rfl (.tmp 27) (.tmp 32) _ rfl _ 32 i0 _ 3 24 Tryz.underlying57 hi qJ ly kK rfl (by decide) _ _ _ rfl (by exact HO.out.up (az _ _)) _ (ζ ⟨wr.heap.size,0,ε⟩) 1 1 (aA [x]) rfl (by exact bg.whole3 (L:=[x]) (Whole.new2 (by simp))) (im [x]) (by unfold Jap;omega) (by omega) ?_;intro v1 w1 fh cP;have nb:=qh fh;have Ry:Hid (Whole w1 (w.heap.size+1) 32 (aA [d])):=(Whole.at_ (Whole.alloc HD.out _) (cP.block _ (by omega)));have r0:=Ry.out.cell (i:=0) rfl;have r1:=Ry.out.cell (i:=1) rfl;have r2:=Ry.out.cell (i:=2) rfl;clear fh cP tokp)
      |(at_builtin
        refine oQ rfl (.tmp 37) (.tmp 39) _ rfl _ 32 i0 _ 3 24 Tryz.underlying57 hi qJ ly kK rfl (by decide) _ _ _ rfl (by exact nb.out.up (az _ _)) _ (ζ ⟨w1.heap.size,0,ε⟩) 1 1 (aA [d]) rfl (by exact bg.whole3 (L:=[d]) (Whole.new2 (by simp))) (im [d]) (by unfold Jap;omega) (by omega) ?_;intro v2 w2 how2 aP;have iN:=qh how2;have xN:Hid (Whole w2 (w.heap.size+1) 32 (aA [d])):=(Whole.at_ (Whole.alloc Ry.out _) (aP.block _ (by omega)));clear how2 aP))
     go_roundw
     case rel=>
      refine⟨i+1,by omega,by go_num,?_,xN.out⟩
      have h:=iN.out;rw[hp.out,Ε,Ε,fM,fM];exact h
     case measure=>simp[intOf];omega
    ·have hij':((i:Int)==(j:Int))=ρ:=by rw[beq_eq_false_iff_ne];omega
     have hp:=qh (show insP L d j (i+1)=F++[x] by rcases Nat.lt_or_gt_of_ne ur with h|h;exact P1.out h;exact P3.out h);clear ur
     go_wp2_with (first
      |(at_builtin
        refine oQ rfl (.tmp 27) (.tmp 32) _ rfl _ 32 i0 _ 3 24 Tryz.underlying57 hi qJ ly kK rfl (by decide) _ _ _ rfl (by exact HO.out.up (az _ _)) _ (ζ ⟨wr.heap.size,0,ε⟩) 1 1 (aA [x]) rfl (by exact bg.whole3 (L:=[x]) (Whole.new2 (by simp))) (im [x]) (by unfold Jap;omega) (by omega) ?_;intro v1 w1 fh cP;have nb:=qh fh;have Ry:Hid (Whole w1 (w.heap.size+1) 32 (aA [d])):=(Whole.at_ (Whole.alloc HD.out _) (cP.block _ (by omega)));clear fh cP))
     go_roundw
     case rel=>
      refine⟨i+1,by omega,by go_num,?_,Ry.out⟩
      rw[hp.out,Ε,fM];exact nb.out
     case measure=>simp[intOf];omega
   ·have hiL:i=L.length:=by omega
    subst hiL
    by_cases h0:L.length=0
    ·have hL:L=[]:=List.eq_nil_of_length_eq_zero h0;subst hL;have e0:insP [] d j ([]:List D).length=[]:=by simp[insP]
     rw[e0] at HO;have r0:=hd.cell (i:=0) rfl;have r1:=hd.cell (i:=1) rfl;have r2:=hd.cell (i:=2) rfl;have e2:ja [] a d=[d]:=by rw[E1.out];simp
     have E2:=qh e2;clear iC hd hlen e0 e2 h0
     go_wp2_with (first
      |(at_builtin
        refine oQ rfl (.tmp 44) (.tmp 46) _ rfl _ 32 i0 _ 3 24 Tryz.underlying57 hi qJ ly kK rfl (by decide) _ _ _ rfl (by exact HO.out.up (az _ _)) _ (ζ ⟨wr.heap.size,0,ε⟩) 1 1 (aA [d]) rfl (by exact bg.whole3 (L:=[d]) (Whole.new2 (by simp))) (im [d]) (by unfold Jap;simp) (by simp) ?_;intro v1 w1 fh cP;have nb:Hid (Ow w (w.heap.size+2) 32 3 v1 [d].length (aA [d]) w1):=fh;clear fh cP;obtain⟨A1,c1,hv,GS⟩:=nb.out.rds;subst hv;have lR:=qh GS;clear GS)
      |(go_at_call 79;refine(HT.out _ _ _ _ _ (by exact lR.out) (by decide)).mono ?_;rintro e w2 ⟨A2,c2,rfl,oJ,aP,qB⟩;have HC2:=qh qB;clear qB;have bG:=qh aP;have R2:=qh oJ;clear aP oJ))
     go_ret;rw[E2.out];exact⟨A2,c2,rfl,R2.out,nb.out.below.trans (bG.out.mono nb.out.below.size),HC2.out⟩
    ·have e0:insP L d j L.length=ja L a d:=by rw[E1.out,insP_all (HJ2.out (by omega))]
     rw[e0] at HO hlen;have bj:((L.length:Int)==0)=ρ:=by simpa using h0
     obtain⟨F,gF⟩:=aB (ja L a d);rw[gF] at HO hlen;have GF:=qh gF;clear iC hd e0 h0 gF;obtain⟨A1,c1,hv,GS⟩:=HO.out.rds;subst hv;have lR:=qh GS;clear GS
     go_wp2_with (first
      |(go_at_call 79;refine(HT.out _ _ _ _ _ (by exact lR.out) (by omega)).mono ?_;rintro e w2 ⟨A2,c2,rfl,oJ,aP,qB⟩;have HC2:=qh qB;clear qB;have bG:=qh aP;have R2:=qh oJ;clear aP oJ))
     go_ret;rw[GF.out];exact⟨A2,c2,rfl,R2.out,HO.out.below.trans (bG.out.mono HO.out.below.size),HC2.out⟩
def uh (L:List D) (d:D) (p:Nat):D:=if d∈L then L.getD ((L.idxOf d+p) % L.length) (0,0,0) else(0,0,0)
def kT (L:List D) (d:D):D:=uh L d (L.length - 1)
def jy (L:List D) (d:D):List D:=if d∈L then L.take (L.idxOf d)++L.drop (L.idxOf d+1) else L
def j4 (L:List D) (o d:D):List D:=if o∈L∧¬d∈L then L.take (L.idxOf o)++d::L.drop (L.idxOf o+1) else L
abbrev Nm:=Int × Int
abbrev VS:=Nm × List D × ByteArray × Int
abbrev SS:=List VS × List EC × List Gn
def dW (a b:Nm):Int:=jz a.1 a.2 b.1 b.2
theorem jA (a b:Nm):dW a b=0↔a=b:=by
 unfold dW;rw[jF];exact⟨fun h=>Prod.ext h.1 h.2,fun h=>by rw[h];exact⟨rfl,rfl⟩⟩
theorem sR (a b:Nm):dW b a= - dW a b:=sq _ _ _ _
theorem lW {a b c:Nm} (h:dW a b<0) (k:dW b c<0):dW a c<0:=by
 have h1:dW a c≤0:=rh _ _ _ _ _ _ (Int.le_of_lt h) (Int.le_of_lt k);rcases Int.lt_or_eq_of_le h1 with h2|h2
 ·exact h2
 ·have e:=(jA a c).1 h2;subst e
  have:=sR a b
  omega
section
variable {α:Type} (k:α→Nm)
def od (l:List α):Prop:=l.Pairwise (fun a b=>dW (k a) (k b)<0)
def kq:List α→α→List α
 |[],v=>[v]
 |u::l,v=>if dW (k v) (k u)<0 then v::u::l else u::kq l v
def pf (l:List α) (x:Nm):Bool:=l.any (fun v=>decide (k v=x))
def CL (l:List α) (x:Nm):List α:=l.filter (fun v=>decide (¬k v=x))
variable {k}
theorem db {l:List α} {x:Nm}:pf k l x=τ↔∃v∈l,k v=x:=by simp[pf]
theorem gY {l:List α} {x:Nm}:pf k l x=ρ↔∀v∈l,¬k v=x:=by simp[pf]
theorem od.tail {v:α} {l:List α} (h:od k (v::l)):od k l:=(JbM.1 h).2
theorem od.head {v:α} {l:List α} (h:od k (v::l)):∀u∈l,dW (k v) (k u)<0:=(JbM.1 h).1
theorem od.nodup {l:List α} (h:od k l):(l.map k).Nodup:=by
 rw[List.Nodup,List.pairwise_map];exact h.imp (fun {a b} h e=>by rw[(jA _ _).2 e] at h;omega)
theorem cy {v:α}:∀{l:List α} {u:α},u∈kq k l v↔u=v∨u∈l
 |[],u=>by simp[kq]
 |w::l,u=>by
  rw[kq];split
  ·simp
  ·rw[Η,cy,Η];constructor
   ·rintro (h|h|h)
    ·exact .inr (.inl h)
    ·exact .inl h
    ·exact .inr (.inr h)
   ·rintro (h|h|h)
    ·exact .inr (.inl h)
    ·exact .inl h
    ·exact .inr (.inr h)
theorem ll (v:α):∀l:List α,(kq k l v).length=l.length+1
 |[]=>rfl
 |w::l=>by
  rw[kq];split
  ·rfl
  ·rw[List.length_cons,ll v l];rfl
theorem wC {v:α}:∀{l:List α},od k l→(∀u∈l,¬k u=k v)→od k (kq k l v)
 |[],_,_=>List.pairwise_singleton _ _
 |w::l,h,hn=>by
  rw[kq];split
  ·rename_i dz;refine JbM.2 ⟨fun u hu=>?_,h⟩;rcases Η.1 hu with rfl|hu
   ·exact dz
   ·exact lW dz (h.head u hu)
  ·rename_i OT;refine JbM.2 ⟨fun u hu=>?_,wC h.tail (fun u hu=>hn u (Jad _ hu))⟩;rcases cy.1 hu with rfl|hu
   ·have h1:=sR (k w) (k u);have h2:¬dW (k w) (k u)=0:=fun e=>hn w Jai ((jA _ _).1 e)
    omega
   ·exact h.head u hu
theorem Aa {v:α}:∀{l:List α} {i:Nat},i≤l.length→(∀t u,l[t]? =ζ u→t<i→dW (k u) (k v)<0)→(∀t u,l[t]? =ζ u→i≤t→0<dW (k u) (k v))→kq k l v=l.take i++v::l.drop i
 |[],i,hi,_,_=>by
  obtain rfl:i=0:=by simpa using hi
  rfl
 |w::l,0,_,_,h2=>by
  have h:=h2 0 w rfl (Δ _);have hn:=sR (k w) (k v);rw[kq,if_pos (by omega)];rfl
 |w::l,i+1,hi,h1,h2=>by
  have h:=h1 0 w rfl (by omega);have hn:=sR (k w) (k v);rw[kq,if_neg (by omega),Aa (i:=i) (by simpa using hi) (fun t u ht dz=>h1 (t+1) u ht (by omega)) (fun t u ht hle=>h2 (t+1) u ht (by omega))];rfl
theorem sh:∀{l:List α} {i:Nat} {v:α},od k l→l[i]? =ζ v→CL k l (k v)=l.take i++l.drop (i+1)
 |[],i,v,_,h=>by simp at h
 |w::l,0,v,hu,h=>by
  obtain rfl:w=v:=by simpa using h
  have e:∀u∈l,decide (¬k u=k w)=τ:=fun u qY=>decide_eq_true (fun q=>by
   have:=hu.head u qY
   rw[(jA _ _).2 q.symm] at this;omega)
  show List.filter _ (w::l)=_;rw[List.filter_cons_of_neg (by simp),List.filter_eq_self.2 e];rfl
 |w::l,i+1,v,hu,h=>by
  have hv:v∈l:=List.mem_of_getElem? (i:=i) (by simpa using h)
  have hw:¬k w=k v:=fun q=>by
   have:=hu.head v hv
   rw[(jA _ _).2 q] at this;omega
  have ih:=sh (i:=i) hu.tail (by simpa using h);show List.filter _ (w::l)=_;rw[List.filter_cons_of_pos (by simpa using hw)];show w::CL k l (k v)=_;rw[ih];rfl
theorem sF {l:List α} {x:Nm} (h:od k l):od k (CL k l x):=h.filter _
end
theorem fi {α:Type} {f:α→Nm}:∀{l:List α} {u v:α},(l.map f).Nodup→u∈l→v∈l→f u=f v→u=v
 |[],_,_,_,hu,_,_=>by cases hu
 |w::l,u,v,h,hu,hv,e=>by
  rw[ι,JaJ] at h;rcases Η.1 hu with QE|QE<;>rcases Η.1 hv with Yo|Yo
  ·rw[QE,Yo]
  ·exact absurd (Α.2 ⟨v,Yo,by rw[←e,QE]⟩) h.1
  ·exact absurd (Α.2 ⟨u,QE,by rw[e,Yo]⟩) h.1
  ·exact fi h.2 QE Yo e
def tN (v:VS) (l:List D):VS:=(v.1,l,v.2.2)
def dS (V:List VS) (x:Nm) (l:List D):List VS:=V.map (fun v=>if v.1=x then tN v l else v)
theorem lI (V:List VS) (x:Nm) (l:List D):(dS V x l).map (·.1)=V.map (·.1):=by
 unfold dS;rw[List.map_map];refine JaV (fun v _=>?_)
 show(if v.1=x then tN v l else v).1=v.1
 split<;>rfl
def bX (V:List VS) (x:D):Bool:=V.any (fun v=>decide (x∈v.2.1))
def D4 (V:List VS) (x:D):Nm:=match V.find? (fun v=>decide (x∈v.2.1)) with|some v=>v.1|none=>(0,0)
def eS (V:List VS) (x:Nm):List D:=match V.find? (fun v=>decide (v.1=x)) with|some v=>v.2.1|none=>[]
def bu (V:List VS) (x:Nm):Bool:=pf (fun v:VS=>v.1) V x
def bI (E:List EC) (x:Nm):Bool:=pf (fun e:EC=>e.1) E x
def fx (V:List VS) (v:VS):List VS:=kq (fun v:VS=>v.1) V v
def gH (E:List EC) (e:EC):List EC:=kq (fun e:EC=>e.1) E e
def dM (V:List VS) (x:Nm):List VS:=CL (fun v:VS=>v.1) V x
def jX (E:List EC) (x:Nm):List EC:=CL (fun e:EC=>e.1) E x
def dI (d:D):Nm:=(d.1,d.2.1)
def bh (x:Nm) (s:Int):D:=(x.1,x.2,s)
def dP (G:List Gn) (g:Gn):List Gn:=if (if (G.any fun y=>decide (y.1=g.1))=τ then G.length - 1 else G.length)≥400 then G else rq G g
def lz (V:List VS) (G:List Gn) (c:Nm × D):Nm × D:=(c.1,if kr (bX V) G G.length c.2∈eS V c.1 then kr (bX V) G G.length c.2 else zD)
def kW (V:List VS) (x:D):D:=
 let l:=eS V (D4 V x)
 let p:=kT l x
 let q:=if dI p=dI x then kT l p else p
 if dI q=dI x then zD else q
def cO (V:List VS) (c:Nm × D) (x:D):List VS:=dS V c.1 (aM (ja (eS V c.1) c.2 x))
def iU (V:List VS) (x:D):List VS:=dS V (D4 V x) (aM (jy (eS V (D4 V x)) x))
def dL (V:List VS) (o x:D):List VS:=dS V (D4 V o) (aM (j4 (eS V (D4 V o)) o x))
def dv:SS:=([],[],[])
section
variable (P:List VS→List EC→Bool)
def og (S:SS) (x:Nm):SS × Int:=
 if bu S.1 x=τ then(dv,12) else if 24≤S.1.length then(dv,3) else((fx S.1 (x,[],Jaf,0),S.2),0)
def oc (S:SS) (x:Nm):SS × Int:=
 if bu S.1 x=ρ then(dv,13) else if ¬eS S.1 x=[] then(dv,14) else((dM S.1 x,S.2),0)
def fO (S:SS) (x:Nm) (a b:Nm × D):SS × Int:=
 if bI S.2.1 x=τ then(dv,12) else if 40≤S.2.1.length then(dv,3)
 else if bu S.1 a.1=ρ∨bu S.1 b.1=ρ then(dv,13)
 else
  let V1:=cO S.1 (lz S.1 S.2.2 a) (bh x 0)
  let V2:=cO V1 (if b.2=bh x 0 then b else lz S.1 S.2.2 b) (bh x 1)
  if P V2 (gH S.2.1 (x,Jaf,0))=τ then((V2,gH S.2.1 (x,Jaf,0),S.2.2),0) else(dv,15)
def jK (S:SS) (x:Nm):SS × Int:=
 if bI S.2.1 x=ρ then(dv,13)
 else((iU (iU S.1 (bh x 0)) (bh x 1),jX S.2.1 x,dP (dP S.2.2 (bh x 0,kW S.1 (bh x 0))) (bh x 1,kW S.1 (bh x 1))),0)
def dJ (S:SS) (x nw ot:Nm) (n:Int):SS × Int:=
 if bI S.2.1 x=ρ then(dv,13)
 else if bu S.1 nw=τ∨bI S.2.1 ot=τ then(dv,12)
 else if 24≤S.1.length∨40≤S.2.1.length then(dv,3)
 else
  let m:=bh x (1 - n.tmod 2)
  let k:=bh ot (n.tdiv 2)
  ((fx (dL S.1 m (bh ot (1 - n.tdiv 2))) (nw,aM [m,k],Jaf,0),gH S.2.1 (ot,Jaf,0),S.2.2),0)
def jn (l:List D) (ot:Nm):Option (D × D):=match l with
 |[a,b]=>if dI a=dI b then ε else if dI a=ot then ζ (b,a) else if dI b=ot then ζ (a,b) else ε
 |_=>ε
def gU (S:SS) (x ot:Nm):SS × Int:=
 if bu S.1 x=ρ then(dv,13)
 else match jn (eS S.1 x) ot with
  |none=>(dv,14)
  |some (a,b)=>
   let far:D:=(b.1,b.2.1,1 - b.2.2)
   ((dL (dM S.1 x) far a,jX S.2.1 ot,dP (dP S.2.2 (bh ot 0,if bh ot 0=far then a else zD)) (bh ot 1,if bh ot 1=far then a else zD)),0)
def lg (V:List VS) (x:Nm) (f:ByteArray × Int→ByteArray × Int):List VS:=V.map (fun v=>if v.1=x then(v.1,v.2.1,f v.2.2) else v)
def o6 (E:List EC) (x:Nm) (f:ByteArray × Int→ByteArray × Int):List EC:=E.map (fun e=>if e.1=x then(e.1,f e.2) else e)
def setS (S:SS) (x:Nm) (e:Bool) (f:ByteArray × Int→ByteArray × Int):SS × Int:=
 if e=τ then(if bI S.2.1 x=τ then((S.1,o6 S.2.1 x f,S.2.2),0) else(dv,13))
 else if bu S.1 x=τ then((lg S.1 x f,S.2),0) else(dv,13)
end
structure dx (S:SS):Prop where
 vup:od (fun v:VS=>v.1) S.1
 eup:od (fun e:EC=>e.1) S.2.1
 once:(S.1.flatMap (fun v=>v.2.1)).Nodup
 turned:∀v∈S.1,aM v.2.1=v.2.1
 known:∀v∈S.1,∀d∈v.2.1,bI S.2.1 (dI d)=τ∧(d.2.2=0∨d.2.2=1)
 ends:∀e∈S.2.1,bX S.1 (bh e.1 0)=τ∧bX S.1 (bh e.1 1)=τ
theorem dY:∀{V:List VS} {u v:VS} {x:D},(V.flatMap (fun v=>v.2.1)).Nodup→u∈V→v∈V→x∈u.2.1→x∈v.2.1→u=v
 |[],_,_,_,_,hu,_,_,_=>by cases hu
 |w::V,u,v,x,h,hu,hv,h1,h2=>by
  rw[Jby,JaL] at h;obtain⟨ha,hb,hc⟩:=h;rcases Η.1 hu with e1|e1<;>rcases Η.1 hv with e2|e2
  ·rw[e1,e2]
  ·exact absurd rfl (hc x (e1▸h1) x (Jat.2 ⟨v,e2,h2⟩))
  ·exact absurd rfl (hc x (e2▸h2) x (Jat.2 ⟨u,e1,h1⟩))
  ·exact dY hb e1 e2 h1 h2
theorem cn {V:List VS} {x:D}:bX V x=τ↔∃v∈V,x∈v.2.1:=by simp[bX]
theorem xF {α:Type} {p:α→Bool}:∀{l:List α} {u:α},u∈l→p u=τ→(∀v∈l,p v=τ→v=u)→l.find? p=ζ u
 |[],_,hu,_,_=>by cases hu
 |w::l,u,hu,hp,h=>by
  by_cases hw:p w=τ
  ·rw[List.find?_cons_of_pos hw,h w Jai hw]
  ·rw[List.find?_cons_of_neg hw];rcases Η.1 hu with e|e
   ·exact absurd (e▸hp) hw
   ·exact xF e hp (fun v hv=>h v (Jad _ hv))
theorem wI {V:List VS} (h:(V.flatMap (fun v=>v.2.1)).Nodup) {u:VS} (hu:u∈V) {x:D} (hx:x∈u.2.1):D4 V x=u.1:=by
 unfold D4;rw[xF (u:=u) hu (decide_eq_true hx) (fun v hv hp=>dY h hv hu (of_decide_eq_true hp) hx)]
theorem fI {V:List VS} (h:(V.map (·.1)).Nodup) {u:VS} (hu:u∈V):eS V u.1=u.2.1:=by
 unfold eS;rw[xF (u:=u) hu (decide_eq_true rfl) (fun v hv hp=>fi h hv hu (of_decide_eq_true hp))]
theorem Ii {l:List D} {d:D} (h:¬d∈l):jy l d=l:=by unfold jy;rw[if_neg h]
theorem Bp {L:List D} {i:Nat} (h:i<L.length):L.getD i (0,0,0)=L[i]:=by
 rw[χ,List.getElem?_eq_getElem h];rfl
def ou (A B:List D):Prop:=∃X Y,A=X++Y∧B=Y++X
theorem ou.symm {A B:List D} (h:ou A B):ou B A:=by
 obtain⟨X,Y,rfl,rfl⟩:=h;exact⟨Y,X,rfl,rfl⟩
theorem ou.trans {A B C:List D} (h:ou A B) (k:ou B C):ou A C:=by
 obtain⟨X,Y,rfl,rfl⟩:=h;obtain⟨U,V,e,rfl⟩:=k;rcases List.append_eq_append_iff.1 e with⟨Z,h1,h2⟩|⟨Z,h1,h2⟩
 ·exact⟨Z,V++Y,by rw[h2];simp,by rw[h1];simp⟩
 ·exact⟨X++U,Z,by rw[h1];simp,by rw[h2];simp⟩
theorem ou.len {A B:List D} (h:ou A B):A.length=B.length:=by
 obtain⟨X,Y,rfl,rfl⟩:=h;simp only[Ε];omega
theorem ou.mem {A B:List D} (h:ou A B) (d:D):d∈A↔d∈B:=by
 obtain⟨X,Y,rfl,rfl⟩:=h;simp only[List.mem_append];exact Or.comm
theorem ou.nodup {A B:List D} (h:ou A B) (n:A.Nodup):B.Nodup:=by
 obtain⟨X,Y,rfl,rfl⟩:=h;rw[JaL] at n ⊢;exact⟨n.2.1,n.1,fun a ha b hb e=>n.2.2 b hb a ha e.symm⟩
theorem ou.filter {A B:List D} (h:ou A B) (p:D→Bool):ou (A.filter p) (B.filter p):=by
 obtain⟨X,Y,rfl,rfl⟩:=h;exact⟨X.filter p,Y.filter p,by simp,by simp⟩
theorem ou.map {A B:List D} (h:ou A B) (f:D→D):ou (A.map f) (B.map f):=by
 obtain⟨X,Y,rfl,rfl⟩:=h;exact⟨X.map f,Y.map f,by simp,by simp⟩
theorem UQ (L:List D) (k:Nat):ou L (L.drop k++L.take k):=⟨L.take k,L.drop k,by simp,rfl⟩
theorem eN (L:List D):ou L (aM L):=UQ L _
theorem rm (L:List D):∀k,∀j,j<k→pA (L.getD (cD L k) (0,0,0)) (L.getD j (0,0,0))≤0
 |0,j,h=>by omega
 |k+1,j,h=>by
  simp only[cD];split
  ·rename_i dz
   by_cases hj:j=k
   ·subst hj;rw[JJ];omega
   ·have:=rm L k j (by omega)
    exact F7 _ _ _ (by omega) this
  ·rename_i OT
   by_cases hj:j=k
   ·subst hj;rw[CF];omega
   ·exact rm L k j (by omega)
theorem Fo (L:List D) (h:0<L.length):(aM L).getD 0 (0,0,0)=L.getD (cD L L.length) (0,0,0):=by
 have hl:=pN L L.length h;unfold aM;rw[χ,List.getElem?_append_left (by simp;omega),List.getElem?_drop,Nat.add_zero,χ]
theorem yZ (L:List D) (h:0<L.length) (d:D) (hd:d∈L):pA ((aM L).getD 0 (0,0,0)) d≤0:=by
 rw[Fo L h];obtain⟨i,hi,he⟩:=List.getElem_of_mem hd
 have:=rm L L.length i hi
 rw[Bp hi,he] at this;exact this
theorem U0 {A B:List D} (h:ou A B) (n:A.Nodup) (hd:0<A.length→A.getD 0 (0,0,0)=B.getD 0 (0,0,0)):A=B:=by
 obtain⟨X,Y,rfl,rfl⟩:=h;cases X with
 |nil=>simp
 |cons a X=>
  cases Y with
  |nil=>simp
  |cons b Y=>
   have:a=b:=by simpa using hd (by simp)
   subst this;simp at n
theorem Ma {A B:List D} (h:ou A B) (n:A.Nodup):aM A=aM B:=by
 have h1:ou (aM A) (aM B):=(eN A).symm.trans (h.trans (eN B));refine U0 h1 ((eN A).nodup n) fun hl=>?_
 rw[kB] at hl;have Pw:0<B.length:=by rw[←h.len];exact hl
 have m1:(aM A).getD 0 (0,0,0)∈A:=by
  rw[(eN A).mem,Bp (by rw[kB];exact hl)];exact Jbs _
 have m2:(aM B).getD 0 (0,0,0)∈B:=by
  rw[(eN B).mem,Bp (by rw[kB];exact Pw)];exact Jbs _
 have a1:=yZ A hl _ ((h.mem _).2 m2);have a2:=yZ B Pw _ ((h.mem _).1 m1);rw[CF] at a2;exact(yG _ _).1 (by omega)
theorem mV {A:List D} (n:A.Nodup):aM (aM A)=aM A:=(Ma (eN A) n).symm
theorem jP {L:List D} {d:D}:d∈aM L↔d∈L:=((eN L).mem d).symm
theorem kS {L:List D} (h:L.Nodup):(aM L).Nodup:=(eN L).nodup h
theorem Lw {l:List D} {d:D} (h:d∈l):jy l d=l.eraseIdx (l.idxOf d):=by
 unfold jy;rw[if_pos h,List.eraseIdx_eq_take_drop_succ]
theorem nJ (l:List D) (d:D):jy l d=l.erase d:=by
 by_cases h:d∈l
 ·rw[Lw h,List.erase_eq_eraseIdx_of_idxOf rfl]
 ·rw[Ii h,List.erase_of_not_mem h]
theorem BV {l:List D} {d e:D} (h:l.Nodup):e∈jy l d↔e≠d∧e∈l:=by rw[nJ];exact h.mem_erase_iff
theorem rj {l:List D} {d:D} (h:l.Nodup):(jy l d).Nodup:=by rw[nJ];exact h.erase d
theorem iJ:∀{V:List VS} {v:VS},(V.flatMap (fun v=>v.2.1)).Nodup→v∈V→v.2.1.Nodup
 |[],_,_,hv=>by cases hv
 |w::V,v,h,hv=>by
  rw[Jby,JaL] at h;rcases Η.1 hv with e|e
  ·rw[e];exact h.1
  ·exact iJ h.2.1 e
theorem CW {V:List VS} {x:Nm} {l:List D} (h:¬x∈V.map (·.1)):dS V x l=V:=by
 unfold dS;rw[JaV (g:=id) (fun v hv=>by rw[if_neg (fun e=>h (Α.2 ⟨v,hv,e⟩))];rfl),List.map_id]
theorem iA {V:List VS} {x:Nm} {l:List D} {v:VS} (h:v∈dS V x l):(v∈V∧¬v.1=x)∨∃u∈V,u.1=x∧v=tN u l:=by
 obtain⟨u,hu,rfl⟩:=Α.1 h
 by_cases e:u.1=x
 ·exact .inr ⟨u,hu,e,by show(if u.1=x then tN u l else u)=_;rw[if_pos e]⟩
 ·have e2:(if u.1=x then tN u l else u)=u:=if_neg e;exact .inl ⟨by rw[e2];exact hu,by rw[e2];exact e⟩
theorem It {x:Nm} {l:List D}:∀{V:List VS},(V.map (·.1)).Nodup→(V.flatMap (fun v=>v.2.1)).Nodup→l.Nodup→(∀d∈l,∀v∈V,¬v.1=x→¬d∈v.2.1)→((dS V x l).flatMap (fun v=>v.2.1)).Nodup
 |[],_,_,_,_=>List.nodup_nil
 |w::V,hk,ho,hl,hd=>by
  rw[ι,JaJ] at hk;rw[Jby,JaL] at ho;obtain⟨o1,o2,o3⟩:=ho;have ih:=It (x:=x) (l:=l) hk.2 o2 hl (fun d h v hv=>hd d h v (Jad _ hv))
  by_cases e:w.1=x
  ·have e1:dS (w::V) x l=tN w l::V:=by
    have:=CW (V:=V) (x:=x) (l:=l) (e▸hk.1)
    unfold dS at this ⊢;rw[ι,this,if_pos e]
   rw[e1,Jby,JaL]
   refine⟨hl,o2,fun a ha b hb q=>?_⟩
   obtain⟨v,hv,Wc⟩:=Jat.1 hb;have bj:¬v.1=x:=fun q2=>hk.1 (Α.2 ⟨v,hv,by rw[q2,e]⟩)
   exact hd b (q▸ha) v (Jad _ hv) bj Wc
  ·have e1:dS (w::V) x l=w::dS V x l:=by
    unfold dS;rw[ι,if_neg e]
   rw[e1,Jby,JaL]
   refine⟨o1,ih,fun a ha b hb q=>?_⟩
   obtain⟨v,hv,Wc⟩:=Jat.1 hb;rcases iA hv with⟨h1,h2⟩|⟨u,hu,h1,h2⟩
   ·exact o3 a ha b (Jat.2 ⟨v,h1,Wc⟩) q
   ·rw[h2] at Wc;exact hd b Wc w Jai e (q▸ha)
theorem Am {V:List VS} {x:Nm} {l:List D} {d:D} (hk:(V.map (·.1)).Nodup) {u:VS} (hu:u∈V) (Xl:u.1=x):bX (dS V x l) d=τ↔d∈l∨∃v∈V,¬v.1=x∧d∈v.2.1:=by
 rw[cn];constructor
 ·rintro⟨v,hv,hd⟩;rcases iA hv with⟨h1,h2⟩|⟨w,hw,h1,h2⟩
  ·exact .inr ⟨v,h1,h2,hd⟩
  ·rw[h2] at hd;exact .inl hd
 ·rintro (hd|⟨v,hv,bj,hd⟩)
  ·exact⟨tN u l,Α.2 ⟨u,hu,if_pos Xl⟩,hd⟩
  ·exact⟨v,Α.2 ⟨v,hv,if_neg bj⟩,hd⟩
structure yW (V:List VS):Prop where
 keys:(V.map (·.1)).Nodup
 once:(V.flatMap (fun v=>v.2.1)).Nodup
 turned:∀v∈V,aM v.2.1=v.2.1
theorem dx.rg {S:SS} (h:dx S):yW S.1:=⟨h.vup.nodup,h.once,h.turned⟩
theorem yW.at_ {V:List VS} (h:yW V) {x:Nm} {l:List D} (hl:l.Nodup) (ht:aM l=l) (hd:∀d∈l,∀v∈V,¬v.1=x→¬d∈v.2.1):yW (dS V x l):=
 ⟨by rw[lI];exact h.keys,It h.keys h.once hl hd,fun v hv=>by
  rcases iA hv with⟨h1,h2⟩|⟨u,hu,h1,h2⟩
  ·exact h.turned v h1
  ·rw[h2];exact ht⟩
theorem yW.rem {V:List VS} (h:yW V) {x:D} (hx:bX V x=τ):yW (iU V x)∧∀d,bX (iU V x) d=τ↔d≠x∧bX V d=τ:=by
 obtain⟨u,hu,rE⟩:=cn.1 hx;have hn:=iJ h.once hu;unfold iU;rw[wI h.once hu rE,fI h.keys hu]
 refine⟨h.at_ (kS (rj hn)) (mV (rj hn)) (fun d hd v hv bj q=>?_),fun d=>?_⟩
 ·have h1:=((BV hn).1 (jP.1 hd)).2;exact bj (by rw[dY h.once hv hu q h1])
 ·rw[Am h.keys hu rfl,jP,BV hn,cn];constructor
  ·rintro (⟨h1,h2⟩|⟨v,hv,bj,hd⟩)
   ·exact⟨h1,u,hu,h2⟩
   ·exact⟨fun e=>bj (by rw[dY h.once hv hu hd (e▸rE)]),v,hv,hd⟩
  ·rintro⟨bj,v,hv,hd⟩
   by_cases e:v.1=u.1
   ·exact .inl ⟨bj,by rw[←fi h.keys hv hu e];exact hd⟩
   ·exact .inr ⟨v,hv,e,hd⟩
end Go.Proofs.YtpdpbfmiahjiiaaGreat
