/- Several texts in one. -/
import Derived.Test.YtpdpbfmiahjiiaaGreatPpAB
import Derived.Test.YtpdpbfmiahjiiaaGreatPpAC
set_option linter.unusedSectionVars false
set_option linter.unusedSimpArgs false
set_option linter.unusedVariables false
set_option maxRecDepth 100000
set_option maxHeartbeats 16000000
namespace Go.Proofs.YtpdpbfmiahjiiaaGreat
open Go.RowKit
open _root_.Go.Value renaming slice→γ
open _root_.Go.Obj renaming cells→δ
open _root_.Option renaming none→ε,some→ζ
open _root_.Go.Proofs.Tryz renaming prog→η
open _root_.List renaming map_cons→ι,getD_eq_getElem?_getD→χ,mem_map→Α,length_append→Ε,mem_cons→Η,take_of_length_le→Ι,mem_cons_of_mem→Jad,mem_cons_self→Jai,mem_append→Jan,mem_flatMap→Jat,mem_filter→JaC,nodup_cons→JaJ,nodup_append→JaL,map_congr_left→JaV,map_map→JaW,take_append_drop→Jbf,pairwise_map→Jbg,getElem_mem→Jbs,flatMap_cons→Jby,pairwise_cons→JbM
open _root_.Go renaming World→ο,maxLen→Jap
open _root_.Bool renaming false→ρ,true→τ
open _root_.Go.RowKit renaming Below→σ
open _root_.Nat renaming le_refl→Δ,zero_le→Jas
open _root_.ByteArray renaming empty→Jaf
def np (L:List D) (a d:D):List D:=if d∈L then L else L.take ((max (iM L a) 0).toNat+1)++d::L.drop ((max (iM L a) 0).toNat+1)
theorem ib {L:List D} {d:D} (h:d∈L):iM L d=(L.idxOf d:Int)∧L.idxOf d<L.length:=⟨by rw[iM,if_pos h],List.idxOf_lt_length_of_mem h⟩
theorem j8 {L:List D} {d:D} (h:¬d∈L):iM L d= -1:=by rw[iM,if_neg h]
theorem Qz (L:List D) (d:D):-1≤iM L d∧iM L d<L.length+1∧(0≤iM L d↔d∈L)∧(0<L.length→iM L d<L.length):=by
 by_cases h:d∈L
 ·obtain⟨e1,e2⟩:=ib h;rw[e1]
  refine⟨by omega,by omega,⟨fun _=>h,fun _=>by omega⟩,fun _=>by omega⟩
 ·rw[j8 h]
  refine⟨by omega,by omega,⟨fun h'=>absurd h' (by omega),fun h'=>absurd h' h⟩,fun _=>by omega⟩
def sC (w:ο) (L:List D) (e:Ending) (w':ο):Prop:=
 ∃A c,e=.returned (γ A L.length c)∧aX w' w'.heap.size 3 A L.length c (aA L)∧σ w.heap.size w w'∧c≤Jap
theorem mE (A:Option Addr) (n c:Nat) (L:List D) (w:ο) (h:aX w w.heap.size 3 A n c (aA L)) (hn:n≤1000000):
 Calls η 79 #[γ A n c] w (sC w (aS L)):=by
 obtain⟨i0,hi,oX,jL,kd⟩:=info_parts nA;have HR:=qh h;have hl:=h.dlen;subst hl;clear h;go_enter Tryz.func79,Tryz.ntmps79;go_wp2;go_loopw [3,4] (fun lv i wr=>∃k:Nat,k≤L.length∧i=J k∧lv=J (di L k:Int)∧σ w.heap.size w wr) (fun _ i _=>L.length - (intOf i).toNat)
 case atStart=>exact⟨0,Jas _,rfl,rfl,Below.refl _ _⟩
 case round=>
  obtain⟨k2,EB,rfl,rfl,cR⟩:=hrel;have Pz:=qh cR
  by_cases T8:k2<L.length
  ·obtain⟨b,off,rfl,hb,hc⟩:=(HR.out.up cR cR.size).darts (by omega);obtain⟨d1,d2,d3⟩:=hc k2 T8;have Qq:=nN L k2;have Mr:di L k2<L.length:=by omega
   obtain⟨e1,e2,e3⟩:=hc (di L k2) Mr;have hs:di L (k2+1)=if p8 (L.getD k2 (0,0,0)) (L.getD (di L k2) (0,0,0))<0 then k2 else di L k2:=rfl
   obtain⟨m,gm⟩:=ay (di L k2);rw[gm] at e1 e2 e3 Qq Mr hs ⊢;obtain⟨x,gx⟩:=ay (L.getD k2 (0,0,0));obtain⟨y,gy⟩:=ay (L.getD m (0,0,0));rw[gx] at d1 d2 d3 hs;rw[gy] at e1 e2 e3 hs;have HOr:=pI x.1 x.2.1 x.2.2 y.1 y.2.1 y.2.2;have ho:mS x.1 x.2.1 x.2.2 y.1 y.2.1 y.2.2=p8 x y:=rfl;obtain⟨ov,uh⟩:=ay (p8 x y);rw[ho,uh] at HOr;rw[uh] at hs;have Na:=qh HOr;have HS:=qh hs;clear hc gm gx gy ho uh HOr hs;go_upto_region 5 with fail
   have g0:=bW d1;have g1:=bW d2;have g2:=bW d3;have g3:=bW e1;have g4:=bW e2;have g5:=bW e3;have hE:Hid (σ w.heap.size w wr.drew):=Pz.out.drew;clear cR
   by_cases ho:ov<0
   ·rw[if_pos ho] at HS;refine aw (aF) (by kernel_rfl) ?_;refine ag 0 ?_;refine ag 1 ?_;refine ag 2 ?_;refine ag 3 ?_;refine ag 4 ?_;refine ag 5 ?_;refine ag 6 ?_;refine ag 7 ?_;refine bY 8 (hy:=by apply ck;rfl;rotate_left;intro w' aB;exact Na.out w';intro w';go_simp) (h:=?_);refine ag 9 ?_;refine aD (by kernel_rfl) ?_ _;intro w' aB;have Pv:Hid (σ w.heap.size w w'):=hE.out.trans (aB.mono hE.out.size);clear g0 g1 g2 g3 g4 g5 aB d1 d2 d3 e1 e2 e3;go_wp2;go_roundw
    case rel=>exact⟨k2+1,by omega,by go_num,by rw[HS.out],Pv.out⟩
    case measure=>simp[intOf];omega
   ·rw[if_neg ho] at HS;refine aw (aF) (by kernel_rfl) ?_;refine ag 0 ?_;refine ag 1 ?_;refine ag 2 ?_;refine ag 3 ?_;refine ag 4 ?_;refine ag 5 ?_;refine ag 6 ?_;refine ag 7 ?_;refine bY 8 (hy:=by apply ck;rfl;rotate_left;intro w' aB;exact Na.out w';intro w';go_simp) (h:=?_);refine ag 9 ?_;refine aD (by kernel_rfl) ?_ _;intro w' aB;have Pv:Hid (σ w.heap.size w w'):=hE.out.trans (aB.mono hE.out.size);clear g0 g1 g2 g3 g4 g5 aB d1 d2 d3 e1 e2 e3;go_wp2;go_roundw
    case rel=>exact⟨k2+1,by omega,by go_num,by rw[HS.out],Pv.out⟩
    case measure=>simp[intOf];omega
  ·have hkl:k2=L.length:=by omega
   subst hkl;have Qq:=nN L L.length;have ht:=J9 L;have hlen:=dI L;obtain⟨R,gR⟩:=ay (aS L);obtain⟨m,gm⟩:=ay (di L L.length);rw[gm,gR] at ht;rw[gR] at hlen;rw[gm] at Qq ⊢;have GR:=qh gR;have HT:=qh ht;have Y4:=qh hlen;clear ht gm gR hlen;obtain⟨W1,rfl⟩:∃x:ο,x=wr:=⟨_,rfl⟩
   have HO:Hid (Ow w w.heap.size 32 3 (γ (ζ ⟨W1.heap.size,0,ε⟩) 0 0) 0 [] (W1.alloc (δ #[] 32))):=Ow.new_ (cs:=#[]) Pz.out (Δ _) Pz.out.size (Jas _) rfl;clear cR;go_wp2;go_loopw [5,6] (fun v i wr=>∃k:Nat,k≤L.length∧i=J k∧Ow w w.heap.size 32 3 v (R.take k).length (aA (R.take k)) wr) (fun _ i _=>L.length - (intOf i).toNat)
   case atStart=>exact⟨0,Jas _,rfl,HO.out⟩
   case round=>
    clear HO;obtain⟨k,hk,rfl,fz⟩:=hrel;have HO:=qh fz
    by_cases fh:k<L.length
    ·obtain⟨b,off,rfl,hb,hc⟩:=(HR.out.up fz.below fz.below.size).darts (by omega);have hj:(m+k) % L.length<L.length:=Nat.mod_lt _ (by omega);have LD:((m:Int)+(k:Int)) % (L.length:Int)=(((m+k) % L.length:Nat):Int):=by rw[Int.natCast_emod,Int.natCast_add]
     have hx:=HT.out k fh;obtain⟨j,gj⟩:=ay ((m+k) % L.length);rw[gj] at hj LD hx;obtain⟨c1,c2,c3⟩:=hc j hj;obtain⟨x,gx⟩:=ay (L.getD j (0,0,0));rw[gx] at c1 c2 c3 hx;have HX:=qh hx;have HTk:=qh (lL R k (by rw[Y4.out];exact fh))
     have hlk:(R.take k).length≤1000000:=by
      have:=List.length_take_le k R
      omega
     clear hc fz gj gx hx
     go_wp2_with (first
      |(at_builtin
        refine fb rfl (.tmp 31) (.tmp 41) _ rfl _ 32 i0 _ 3 24 Tryz.underlying57 hi oX jL kd rfl (by decide) _ _ _ rfl (by exact HO.out.up (ax _ _)) _ (ζ ⟨wr.heap.size,0,ε⟩) 1 1 (aA [x]) rfl (by exact aX.whole3 (L:=[x]) (Whole.new_ _ _ _)) (eH [x]) (by unfold Jap;omega) (by omega) ?_;intro v1 w1 fg e8;have mX:=qh fg;clear fg e8))
     go_roundw
     case rel=>
      refine⟨k+1,by omega,by go_num,?_⟩
      rw[HTk.out,HX.out,Ε,fm];exact mX.out
     case measure=>simp[intOf];omega
    ·have RX:R.take k=R:=Ι (by rw[Y4.out];omega);rw[RX] at HO;clear fz RX;obtain⟨A1,c1,hv,Ew⟩:=HO.out.rds;subst hv;have uu:=qh Ew;clear Ew;go_wp2;go_ret;rw[GR.out];exact⟨A1,c1,rfl,uu.out,HO.out.below,fO HO.out.own⟩
theorem CW (L:List D) (d:D) (k:Nat) (h:k<L.length):(L.take (k+1)).filter (fun x=>decide (x≠d))=(L.take k).filter (fun x=>decide (x≠d))++if L.getD k (0,0,0)=d then[] else[L.getD k (0,0,0)]:=by
 rw[lL L k h,List.filter_append];generalize L.getD k (0,0,0)=x
 by_cases e:x=d
 ·rw[if_pos e];simp[e]
 ·rw[if_neg e];simp[e]
def rW (L:List D) (d:D):List D:=L.filter fun x=>decide (x≠d)
theorem zi (A:Option Addr) (n c:Nat) (L:List D) (d:D) (w:ο) (h:aX w w.heap.size 3 A n c (aA L)) (hn:n≤999000):
 Calls η 102 #[γ A n c,.agg #[J d.1,J d.2.1,J d.2.2]] w (sC w (aS (rW L d))):=by
 obtain⟨i0,hi,oX,jL,kd⟩:=info_parts nA;have HT:=qh (fun A n c L W h hn=>mE A n c L W h hn);have HR:=qh h;have hl:=h.dlen;subst hl
 have h00:(Ow w (w.heap.size+1) 32 3 (γ (ζ ⟨w.heap.size+1,0,ε⟩) 0 0) 0 [] ((w.alloc (δ #[J d.1,J d.2.1,J d.2.2] 32)).alloc (δ #[] 32))):=by
  have:=Ow.new_ (e:=32) (size:=3) (cs:=#[]) (ax w (δ #[J d.1,J d.2.1,J d.2.2] 32)) (B:=w.heap.size+1) (by omega) (by simp) (n:=0) (Jas _) rfl
  simpa using this
 have RY:=qh h00;have zF:Hid (Whole ((w.alloc (δ #[J d.1,J d.2.1,J d.2.2] 32)).alloc (δ #[] 32)) w.heap.size 32 (aA [d])):=(Whole.new_ w _ (aA [d])).alloc _;clear h h00;go_enter Tryz.func102,Tryz.ntmps102;go_wp2;go_loopw [5,6] (fun v i wr=>∃k:Nat,k≤L.length∧i=J k∧Ow w (w.heap.size+1) 32 3 v ((L.take k).filter (fun x=>decide (x≠d))).length (aA ((L.take k).filter (fun x=>decide (x≠d)))) wr∧Whole wr w.heap.size 32 (aA [d])) (fun _ i _=>L.length - (intOf i).toNat)
 case atStart=>exact⟨0,Jas _,rfl,RY.out,zF.out⟩
 case round=>
  clear RY zF;obtain⟨k,hk,rfl,fz,hd⟩:=hrel;have HO:=qh fz;have HD:=qh hd
  by_cases fh:k<L.length
  ·obtain⟨b,off,rfl,hb,hc⟩:=(HR.out.up fz.below fz.below.size).darts (by omega);obtain⟨c1,c2,c3⟩:=hc k fh
   have Xw:((L.take k).filter (fun x=>decide (x≠d))).length≤1000000:=by
    have:=List.length_filter_le (fun x=>decide (x≠d)) (L.take k)
    have:=List.length_take_le k L
    omega
   have hf:=CW L d k fh;obtain⟨x,gx⟩:=ay (L.getD k (0,0,0));rw[gx] at c1 c2 c3 hf;have d0:=hd.cell (i:=0) rfl;have d1:=hd.cell (i:=1) rfl;have d2:=hd.cell (i:=2) rfl;have hq:=jr x d;obtain⟨F,gF⟩:=ay ((L.take k).filter (fun x=>decide (x≠d)));rw[gF] at HO hf Xw;have HF:=qh hf;clear hc fz gx gF hf hd
   by_cases he:x=d
   ·have Po:(!decide (x=d))=ρ:=by simpa using he
    rw[Po] at hq;rw[if_pos he,List.append_nil] at HF;clear he Po;go_wp2;go_quiet (fail);go_wp2;go_roundw
    case rel=>
     refine⟨k+1,by omega,by go_num,?_,HD.out.at_ rfl⟩
     rw[HF.out];exact HO.out.up (below_drewN _ _ _)
    case measure=>simp[intOf];omega
   ·have Po:(!decide (x=d))=τ:=by simpa using he
    rw[Po] at hq;rw[if_neg he] at HF;clear he Po;go_wp2;go_quiet (fail)
    go_wp2_with (first
     |(at_builtin
       refine fb rfl (.tmp 20) (.tmp 25) _ rfl _ 32 i0 _ 3 24 Tryz.underlying57 hi oX jL kd rfl (by decide) _ _ _ rfl (by exact(HO.out.up (below_drewN _ _ _)).up (ax _ _)) _ (ζ ⟨wr.heap.size,0,ε⟩) 1 1 (aA [x]) rfl (by exact aX.whole3 (L:=[x]) (Whole.new2 (by simp))) (eH [x]) (by unfold Jap;omega) (by omega) ?_;intro v1 w1 fg e8;have mX:=qh fg;have yZ:Hid (Whole w1 w.heap.size 32 (aA [d])):=(Whole.at_ (Whole.alloc (HD.out.at_ rfl) _) (e8.block _ (by omega)));clear fg e8))
    go_roundw
    case rel=>
     refine⟨k+1,by omega,by go_num,?_,yZ.out⟩
     rw[HF.out,Ε,fm];exact mX.out
    case measure=>simp[intOf];omega
  ·have RX:(L.take k).filter (fun x=>decide (x≠d))=rW L d:=by rw[Ι (by omega)];rfl
   rw[RX] at HO
   have Xw:(rW L d).length≤1000000:=by
    have:=List.length_filter_le (fun x=>decide (x≠d)) L
    unfold rW;omega
   clear fz RX hd;obtain⟨A1,c1,hv,Ew⟩:=HO.out.rds;subst hv;have uu:=qh Ew;clear Ew
   go_wp2_with (first
    |(go_at_call 79;refine(HT.out _ _ _ _ _ (by exact uu.out) Xw).mono ?_;rintro e w2 ⟨A2,c2,rfl,yS,ar,yH⟩;have RO:=qh yH;clear yH;have bX:=qh ar;have R2:=qh yS;clear ar yS))
   go_ret;exact⟨A2,c2,rfl,R2.out,HO.out.below.trans (bX.out.mono HO.out.below.size),RO.out⟩
def jA (L:List D) (d:D) (j i:Nat):List D:=if i≤j then L.take i else L.take (j+1)++d::(L.take i).drop (j+1)
theorem QW {L:List D} {d:D} {j i:Nat} (h:i<L.length) (hj:i<j):jA L d j (i+1)=jA L d j i++[L.getD i (0,0,0)]:=by
 rw[jA,jA,if_pos (by omega),if_pos (by omega),lL L i h]
theorem Qv {L:List D} {d:D} {j:Nat} (h:j<L.length):jA L d j (j+1)=jA L d j j++[L.getD j (0,0,0)]++[d]:=by
 rw[jA,jA,if_neg (by omega),if_pos (by omega),lL L j h,List.drop_of_length_le (by simp;omega)]
theorem Rz {L:List D} {d:D} {j i:Nat} (h:i<L.length) (hj:j<i):jA L d j (i+1)=jA L d j i++[L.getD i (0,0,0)]:=by
 rw[jA,jA,if_neg (by omega),if_neg (by omega),lL L i h,List.drop_append_of_le_length (by simp;omega)];simp
theorem NY (L:List D) (d:D) (j i:Nat):(jA L d j i).length≤L.length+2:=by
 unfold jA;split
 ·have:=List.length_take_le i L
  have:(L.take i).length≤L.length:=by simp;omega
  omega
 ·simp;omega
theorem OR {L:List D} {d:D} {j:Nat} (h:j<L.length):jA L d j L.length=L.take (j+1)++d::L.drop (j+1):=by
 rw[jA,if_neg (by omega),List.take_length]
theorem zm (A:Option Addr) (n c:Nat) (L:List D) (a d:D) (w:ο) (h:aX w w.heap.size 3 A n c (aA L)) (hn:n≤999000):
 Calls η 100 #[γ A n c,.agg #[J a.1,J a.2.1,J a.2.2],.agg #[J d.1,J d.2.1,J d.2.2]] w (sC w (aS (np L a d))):=by
 obtain⟨i0,hi,oX,jL,kd⟩:=info_parts nA;have HI:=qh (fun x W h=>gZ A n c L x W h (by omega));have HT:=qh (fun A n c L W h hn=>mE A n c L W h hn);have HR:=qh h;have hl:=h.dlen;subst hl;obtain⟨W0,bP⟩:=ay ((w.alloc (δ #[J a.1,J a.2.1,J a.2.2] 32)).alloc (δ #[J d.1,J d.2.1,J d.2.2] 32));have kx:σ w.heap.size w W0:=by rw[←bP];exact cG _ _ _
 have Wb:W0.heap.size=w.heap.size+2:=by rw[←bP];simp
 have J6:Whole W0 w.heap.size 32 (aA [a]):=by rw[←bP];exact(Whole.new_ w _ (aA [a])).alloc _
 have zF:Whole W0 (w.heap.size+1) 32 (aA [d]):=by
  rw[←bP];exact Whole.new2 (cs:=aA [d]) (by simp)
 have B0:=qh kx;have S0:=qh Wb;have AA:=qh J6;have DD:=qh zF;have a0:=J6.cell (i:=0) rfl;have a1:=J6.cell (i:=1) rfl;have a2:=J6.cell (i:=2) rfl;have d0:=zF.cell (i:=0) rfl;have d1:=zF.cell (i:=1) rfl;have d2:=zF.cell (i:=2) rfl;have GW:=qh bP;have DV:=qh (HI.out a);have DR:=qh (HI.out d);have tok:True:=trivial;clear h bP kx J6 zF HI Wb
 by_cases hd:d∈L
 ·have e1:np L a d=L:=by rw[np,if_pos hd]
  obtain⟨i1,i2⟩:=ib hd;rw[i1] at DR;obtain⟨k,gk⟩:=ay (L.idxOf d);rw[gk] at DR;have E1:=qh e1;clear e1 i1 i2 gk hd;go_enter Tryz.func100,Tryz.ntmps100;go_upto_region 1 with fail
  rw[GW.out]
  go_wp2_with (first
   |(go_at_call 33;refine(DR.out _ (by exact HR.out.up B0.out B0.out.size)).mono ?_;rintro e w2 ⟨rfl,ar⟩;have B2:=qh (B0.out.trans (ar.mono B0.out.size));clear ar)
   |(go_at_call 79;refine(HT.out _ _ _ _ _ (by exact HR.out.up B2.out B2.out.size) (by omega)).mono ?_;rintro e w3 ⟨A2,c2,rfl,sw,bC,WO⟩))
  go_ret;rw[E1.out];exact⟨A2,c2,rfl,sw,B2.out.trans (bC.mono B2.out.size),WO⟩
 ·have e1:np L a d=L.take ((max (iM L a) 0).toNat+1)++d::L.drop ((max (iM L a) 0).toNat+1):=by rw[np,if_neg hd]
  rw[j8 hd] at DR;obtain⟨i1,i2,i3,i4⟩:=Qz L a;obtain⟨k,gk⟩:=ay (iM L a);rw[gk] at DV e1 i1 i2 i4;have LA:∃j:Nat,max k 0=(j:Int)∧(0<L.length→j<L.length):=⟨(max k 0).toNat,by omega,by omega⟩
  obtain⟨j,hj,Sv⟩:=LA;rw[hj,Int.toNat_natCast] at e1;have E1:=qh e1;have HJ:=qh hj;have HJ2:=qh Sv;have hkb:k≤1000000:=by omega
  clear e1 i2 i3 i4 gk hd hj Sv;go_enter Tryz.func100,Tryz.ntmps100;go_upto_region 1 with fail
  rw[GW.out]
  go_upto_region 3 with (first
   |(go_at_call 33;have _t:=tok;refine(DR.out _ (by exact HR.out.up B0.out B0.out.size)).mono ?_;rintro e w2 ⟨rfl,ar⟩;have B2:=qh (B0.out.trans (ar.mono B0.out.size));have S2:=qh ar.size;have A2:=qh (AA.out.below ar);have D2:=qh (DD.out.below ar);have q0:=A2.out.cell (i:=0) rfl;have q1:=A2.out.cell (i:=1) rfl;have q2:=A2.out.cell (i:=2) rfl;clear ar tok))
  clear a0 a1 a2 d0 d1 d2;go_cut [7] (fun v x=>v=J (j:Int)∧σ w.heap.size w x∧w.heap.size+2≤x.heap.size∧Whole x (w.heap.size+1) 32 (aA [d]))
  case first=>
   by_cases yw:0<k
   ·have vK:k=j:=by have:=HJ.out;omega
    have G8:=qh vK;clear vK
    go_wp2_with (first
     |(go_at_call 33;refine(DV.out _ (by exact HR.out.up B2.out B2.out.size)).mono ?_;rintro e w3 ⟨rfl,bC⟩;have B3:=qh (B2.out.trans (bC.mono B2.out.size));have S3:=qh bC.size;have D3:=qh (D2.out.below bC);clear bC))
    go_meet;exact⟨by(have:=HJ.out;rw[show max 0 k=(j:Int) by omega]),B3.out,by have:=S0.out;have:=S2.out;have:=S3.out;omega,D3.out⟩
   ·have vK:(0:Int)=j:=by have:=HJ.out;omega
    have G8:=qh vK;clear vK
    go_wp2_with (first
     |(go_at_call 33;refine(DV.out _ (by exact HR.out.up B2.out B2.out.size)).mono ?_;rintro e w3 ⟨rfl,bC⟩;have B3:=qh (B2.out.trans (bC.mono B2.out.size));have S3:=qh bC.size;have D3:=qh (D2.out.below bC);clear bC))
    go_meet;exact⟨by(have:=HJ.out;rw[show max 0 k=(j:Int) by omega]),B3.out,by have:=S0.out;have:=S2.out;have:=S3.out;omega,D3.out⟩
  case rest=>
  obtain⟨rfl,hbc,hsc,EJ⟩:=hcut;have RY:=qh (Ow.new_ (e:=32) (size:=3) (cs:=#[]) hbc (B:=w.heap.size+2) (by omega) hsc (n:=0) (Jas _) rfl);have zF:=qh (Whole.alloc EJ (δ #[] 32));clear hbc hsc EJ q0 q1 q2;obtain⟨W1,rfl⟩:∃x:ο,x=wc:=⟨_,rfl⟩
  go_wp2;go_loopw [8,9] (fun v i wr=>∃k:Nat,k≤L.length∧i=J k∧Ow w (w.heap.size+2) 32 3 v (jA L d j k).length (aA (jA L d j k)) wr∧Whole wr (w.heap.size+1) 32 (aA [d])) (fun _ i _=>L.length - (intOf i).toNat)
  case atStart=>exact⟨0,Jas _,rfl,RY.out,zF.out⟩
  case round=>
   clear RY zF;obtain⟨i,Fe,rfl,fz,hd⟩:=hrel;have HO:=qh fz;have HD:=qh hd;have hlen:=NY L d j i
   by_cases fh:i<L.length
   ·obtain⟨b,off,rfl,hb,hc⟩:=(HR.out.up fz.below fz.below.size).darts (by omega);obtain⟨c1,c2,c3⟩:=hc i fh;have akJ:=HJ2.out (by omega);have p1:i<j→jA L d j (i+1)=jA L d j i++[L.getD i (0,0,0)]:=fun h=>QW fh h
    have p2:i=j→jA L d j (i+1)=jA L d j i++[L.getD i (0,0,0)]++[d]:=fun h=>by subst h;exact Qv fh
    have p3:j<i→jA L d j (i+1)=jA L d j i++[L.getD i (0,0,0)]:=fun h=>Rz fh h
    obtain⟨x,gx⟩:=ay (L.getD i (0,0,0));rw[gx] at c1 c2 c3 p1 p2 p3;obtain⟨F,gF⟩:=ay (jA L d j i);rw[gF] at HO p1 p2 p3 hlen;have P1:=qh p1;have P2:=qh p2;have P3:=qh p3;have WQ:True:=trivial;clear hc fz gx gF p1 p2 p3 hd
    by_cases Jh:i=j
    ·have adW:((i:Int)==(j:Int))=τ:=by rw[beq_iff_eq];omega
     have hp:=qh (P2.out Jh);have HIJ:=qh Jh;clear Jh
     go_wp2_with (first
      |(at_builtin
        have _t:=WQ;refine fb rfl (.tmp 27) (.tmp 32) _ rfl _ 32 i0 _ 3 24 Tryz.underlying57 hi oX jL kd rfl (by decide) _ _ _ rfl (by exact HO.out.up (ax _ _)) _ (ζ ⟨wr.heap.size,0,ε⟩) 1 1 (aA [x]) rfl (by exact aX.whole3 (L:=[x]) (Whole.new2 (by simp))) (eH [x]) (by unfold Jap;omega) (by omega) ?_;intro v1 w1 fg e8;have mX:=qh fg;have yZ:Hid (Whole w1 (w.heap.size+1) 32 (aA [d])):=(Whole.at_ (Whole.alloc HD.out _) (e8.block _ (by omega)));have r0:=yZ.out.cell (i:=0) rfl;have r1:=yZ.out.cell (i:=1) rfl;have r2:=yZ.out.cell (i:=2) rfl;clear fg e8 WQ)
      |(at_builtin
        refine fb rfl (.tmp 37) (.tmp 39) _ rfl _ 32 i0 _ 3 24 Tryz.underlying57 hi oX jL kd rfl (by decide) _ _ _ rfl (by exact mX.out.up (ax _ _)) _ (ζ ⟨w1.heap.size,0,ε⟩) 1 1 (aA [d]) rfl (by exact aX.whole3 (L:=[d]) (Whole.new2 (by simp))) (eH [d]) (by unfold Jap;omega) (by omega) ?_;intro v2 w2 Y3 ar;have fW:=qh Y3;have yX:Hid (Whole w2 (w.heap.size+1) 32 (aA [d])):=(Whole.at_ (Whole.alloc yZ.out _) (ar.block _ (by omega)));clear Y3 ar))
     go_roundw
     case rel=>
      refine⟨i+1,by omega,by go_num,?_,yX.out⟩
      have h:=fW.out;rw[hp.out,Ε,Ε,fm,fm];exact h
     case measure=>simp[intOf];omega
    ·have adW:((i:Int)==(j:Int))=ρ:=by rw[beq_eq_false_iff_ne];omega
     have hp:=qh (show jA L d j (i+1)=F++[x] by rcases Nat.lt_or_gt_of_ne Jh with h|h;exact P1.out h;exact P3.out h);clear Jh
     go_wp2_with (first
      |(at_builtin
        refine fb rfl (.tmp 27) (.tmp 32) _ rfl _ 32 i0 _ 3 24 Tryz.underlying57 hi oX jL kd rfl (by decide) _ _ _ rfl (by exact HO.out.up (ax _ _)) _ (ζ ⟨wr.heap.size,0,ε⟩) 1 1 (aA [x]) rfl (by exact aX.whole3 (L:=[x]) (Whole.new2 (by simp))) (eH [x]) (by unfold Jap;omega) (by omega) ?_;intro v1 w1 fg e8;have mX:=qh fg;have yZ:Hid (Whole w1 (w.heap.size+1) 32 (aA [d])):=(Whole.at_ (Whole.alloc HD.out _) (e8.block _ (by omega)));clear fg e8))
     go_roundw
     case rel=>
      refine⟨i+1,by omega,by go_num,?_,yZ.out⟩
      rw[hp.out,Ε,fm];exact mX.out
     case measure=>simp[intOf];omega
   ·have hiL:i=L.length:=by omega
    subst hiL
    by_cases h0:L.length=0
    ·have hL:L=[]:=List.eq_nil_of_length_eq_zero h0;subst hL;have e0:jA [] d j ([]:List D).length=[]:=by simp[jA]
     rw[e0] at HO;have r0:=hd.cell (i:=0) rfl;have r1:=hd.cell (i:=1) rfl;have r2:=hd.cell (i:=2) rfl;have e2:np [] a d=[d]:=by rw[E1.out];simp
     have E2:=qh e2;clear fz hd hlen e0 e2 h0
     go_wp2_with (first
      |(at_builtin
        refine fb rfl (.tmp 44) (.tmp 46) _ rfl _ 32 i0 _ 3 24 Tryz.underlying57 hi oX jL kd rfl (by decide) _ _ _ rfl (by exact HO.out.up (ax _ _)) _ (ζ ⟨wr.heap.size,0,ε⟩) 1 1 (aA [d]) rfl (by exact aX.whole3 (L:=[d]) (Whole.new2 (by simp))) (eH [d]) (by unfold Jap;simp) (by simp) ?_;intro v1 w1 fg e8;have mX:Hid (Ow w (w.heap.size+2) 32 3 v1 [d].length (aA [d]) w1):=fg;clear fg e8;obtain⟨A1,c1,hv,Ew⟩:=mX.out.rds;subst hv;have uu:=qh Ew;clear Ew)
      |(go_at_call 79;refine(HT.out _ _ _ _ _ (by exact uu.out) (by decide)).mono ?_;rintro e w2 ⟨A2,c2,rfl,yS,ar,yH⟩;have RO:=qh yH;clear yH;have bX:=qh ar;have R2:=qh yS;clear ar yS))
     go_ret;rw[E2.out];exact⟨A2,c2,rfl,R2.out,mX.out.below.trans (bX.out.mono mX.out.below.size),RO.out⟩
    ·have e0:jA L d j L.length=np L a d:=by rw[E1.out,OR (HJ2.out (by omega))]
     rw[e0] at HO hlen;have cu:((L.length:Int)==0)=ρ:=by simpa using h0
     obtain⟨F,gF⟩:=ay (np L a d);rw[gF] at HO hlen;have GF:=qh gF;clear fz hd e0 h0 gF;obtain⟨A1,c1,hv,Ew⟩:=HO.out.rds;subst hv;have uu:=qh Ew;clear Ew
     go_wp2_with (first
      |(go_at_call 79;refine(HT.out _ _ _ _ _ (by exact uu.out) (by omega)).mono ?_;rintro e w2 ⟨A2,c2,rfl,yS,ar,yH⟩;have RO:=qh yH;clear yH;have bX:=qh ar;have R2:=qh yS;clear ar yS))
     go_ret;rw[GF.out];exact⟨A2,c2,rfl,R2.out,HO.out.below.trans (bX.out.mono HO.out.below.size),RO.out⟩
def Mc (L:List D) (d:D) (p:Nat):D:=if d∈L then L.getD ((L.idxOf d+p) % L.length) (0,0,0) else(0,0,0)
def mq (L:List D) (d:D):D:=Mc L d (L.length - 1)
def AF (L:List D) (d:D):List D:=if d∈L then L.take (L.idxOf d)++L.drop (L.idxOf d+1) else L
def fo (L:List D) (o d:D):List D:=if o∈L∧¬d∈L then L.take (L.idxOf o)++d::L.drop (L.idxOf o+1) else L
abbrev Nm:=Int × Int
abbrev VS:=Nm × List D × ByteArray × Int
abbrev SS:=List VS × List EC × List Gn
def dF (a b:Nm):Int:=mH a.1 a.2 b.1 b.2
theorem jR (a b:Nm):dF a b=0↔a=b:=by
 unfold dF;rw[j6];exact⟨fun h=>Prod.ext h.1 h.2,fun h=>by rw[h];exact⟨rfl,rfl⟩⟩
theorem th (a b:Nm):dF b a= - dF a b:=tH _ _ _ _
theorem mQ {a b c:Nm} (h:dF a b<0) (k:dF b c<0):dF a c<0:=by
 have h1:dF a c≤0:=se _ _ _ _ _ _ (Int.le_of_lt h) (Int.le_of_lt k);rcases Int.lt_or_eq_of_le h1 with h2|h2
 ·exact h2
 ·have e:=(jR a c).1 h2;subst e
  have:=th a b
  omega
section
variable {α:Type} (k:α→Nm)
def pW (l:List α):Prop:=l.Pairwise (fun a b=>dF (k a) (k b)<0)
def eS:List α→α→List α
 |[],v=>[v]
 |u::l,v=>if dF (k v) (k u)<0 then v::u::l else u::eS l v
def qg (l:List α) (x:Nm):Bool:=l.any (fun v=>decide (k v=x))
def fY (l:List α) (x:Nm):List α:=l.filter (fun v=>decide (¬k v=x))
variable {k}
theorem eB {l:List α} {x:Nm}:qg k l x=τ↔∃v∈l,k v=x:=by simp[qg]
theorem ju {l:List α} {x:Nm}:qg k l x=ρ↔∀v∈l,¬k v=x:=by simp[qg]
theorem pW.tail {v:α} {l:List α} (h:pW k (v::l)):pW k l:=(JbM.1 h).2
theorem pW.head {v:α} {l:List α} (h:pW k (v::l)):∀u∈l,dF (k v) (k u)<0:=(JbM.1 h).1
theorem pW.nodup {l:List α} (h:pW k l):(l.map k).Nodup:=by
 rw[List.Nodup,Jbg];exact h.imp (fun {a b} h e=>by rw[(jR _ _).2 e] at h;omega)
theorem dx {v:α}:∀{l:List α} {u:α},u∈eS k l v↔u=v∨u∈l
 |[],u=>by simp[eS]
 |w::l,u=>by
  rw[eS];split
  ·simp
  ·rw[Η,dx,Η];constructor
   ·rintro (h|h|h)
    ·exact .inr (.inl h)
    ·exact .inl h
    ·exact .inr (.inr h)
   ·rintro (h|h|h)
    ·exact .inr (.inl h)
    ·exact .inl h
    ·exact .inr (.inr h)
theorem kk (v:α):∀l:List α,(eS k l v).length=l.length+1
 |[]=>rfl
 |w::l=>by
  rw[eS];split
  ·rfl
  ·rw[List.length_cons,kk v l];rfl
theorem wO {v:α}:∀{l:List α},pW k l→(∀u∈l,¬k u=k v)→pW k (eS k l v)
 |[],_,_=>List.pairwise_singleton _ _
 |w::l,h,hn=>by
  rw[eS];split
  ·rename_i fh;refine JbM.2 ⟨fun u hu=>?_,h⟩;rcases Η.1 hu with rfl|hu
   ·exact fh
   ·exact mQ fh (h.head u hu)
  ·rename_i Sg;refine JbM.2 ⟨fun u hu=>?_,wO h.tail (fun u hu=>hn u (Jad _ hu))⟩;rcases dx.1 hu with rfl|hu
   ·have h1:=th (k w) (k u);have h2:¬dF (k w) (k u)=0:=fun e=>hn w Jai ((jR _ _).1 e)
    omega
   ·exact h.head u hu
theorem Bo {v:α}:∀{l:List α} {i:Nat},i≤l.length→(∀t u,l[t]? =ζ u→t<i→dF (k u) (k v)<0)→(∀t u,l[t]? =ζ u→i≤t→0<dF (k u) (k v))→eS k l v=l.take i++v::l.drop i
 |[],i,hi,_,_=>by
  obtain rfl:i=0:=by simpa using hi
  rfl
 |w::l,0,_,_,h2=>by
  have h:=h2 0 w rfl (Δ _);have hn:=th (k w) (k v);rw[eS,if_pos (by omega)];rfl
 |w::l,i+1,hi,h1,h2=>by
  have h:=h1 0 w rfl (by omega);have hn:=th (k w) (k v);rw[eS,if_neg (by omega),Bo (i:=i) (by simpa using hi) (fun t u ht fh=>h1 (t+1) u ht (by omega)) (fun t u ht hle=>h2 (t+1) u ht (by omega))];rfl
theorem AL:∀{l:List α} {i:Nat} {v:α},pW k l→l[i]? =ζ v→fY k l (k v)=l.take i++l.drop (i+1)
 |[],i,v,_,h=>by simp at h
 |w::l,0,v,hu,h=>by
  obtain rfl:w=v:=by simpa using h
  have e:∀u∈l,decide (¬k u=k w)=τ:=fun u hu'=>decide_eq_true (fun q=>by
   have:=hu.head u hu'
   rw[(jR _ _).2 q.symm] at this;omega)
  show List.filter _ (w::l)=_;rw[List.filter_cons_of_neg (by simp),List.filter_eq_self.2 e];rfl
 |w::l,i+1,v,hu,h=>by
  have hv:v∈l:=List.mem_of_getElem? (i:=i) (by simpa using h)
  have hw:¬k w=k v:=fun q=>by
   have:=hu.head v hv
   rw[(jR _ _).2 q] at this;omega
  have ih:=AL (i:=i) hu.tail (by simpa using h);show List.filter _ (w::l)=_;rw[List.filter_cons_of_pos (by simpa using hw)];show w::fY k l (k v)=_;rw[ih];rfl
theorem tB {l:List α} {x:Nm} (h:pW k l):pW k (fY k l x):=h.filter _
theorem xi {v:α}:∀{l:List α},(∀u∈l,¬k u=k v)→fY k (eS k l v) (k v)=l
 |[],_=>by simp[eS,fY]
 |w::l,h=>by
  have hw:=h w Jai;have hl:∀u∈l,¬k u=k v:=fun u hu=>h u (Jad _ hu)
  rw[eS];split
  ·show List.filter _ (v::w::l)=_;rw[List.filter_cons_of_neg (by simp)];exact List.filter_eq_self.2 (fun u hu=>decide_eq_true (h u hu))
  ·show List.filter _ (w::eS k l v)=_;rw[List.filter_cons_of_pos (by simpa using hw)];show w::fY k (eS k l v) (k v)=_;rw[xi hl]
end
theorem rO {α:Type} {f:α→Nm}:∀{l:List α} {u v:α},(l.map f).Nodup→u∈l→v∈l→f u=f v→u=v
 |[],_,_,_,hu,_,_=>by cases hu
 |w::l,u,v,h,hu,hv,e=>by
  rw[ι,JaJ] at h;rcases Η.1 hu with YB|YB<;>rcases Η.1 hv with WT|WT
  ·rw[YB,WT]
  ·exact absurd (Α.2 ⟨v,WT,by rw[←e,YB]⟩) h.1
  ·exact absurd (Α.2 ⟨u,YB,by rw[e,WT]⟩) h.1
  ·exact rO h.2 YB WT e
def uk (v:VS) (l:List D):VS:=(v.1,l,v.2.2)
def bZ (V:List VS) (x:Nm) (l:List D):List VS:=V.map (fun v=>if v.1=x then uk v l else v)
def rings (V:List VS) (f:List D→List D):List VS:=V.map (fun v=>uk v (f v.2.1))
theorem Ny {V:List VS} {f:List D→List D} {u:VS} (hu:(V.map (·.1)).Nodup) (hm:u∈V) (h:∀v∈V,¬v.1=u.1→f v.2.1=v.2.1):rings V f=bZ V u.1 (f u.2.1):=by
 unfold rings bZ;refine JaV (fun v hv=>?_)
 by_cases e:v.1=u.1
 ·have e2:v=u:=rO hu hv hm e;rw[if_pos e,e2]
 ·rw[if_neg e,h v hv e];rfl
theorem ic (V:List VS) (x:Nm) (l:List D):(bZ V x l).map (·.1)=V.map (·.1):=by
 unfold bZ;rw[JaW];refine JaV (fun v _=>?_)
 show(if v.1=x then uk v l else v).1=v.1
 split<;>rfl
theorem xb (V:List VS) (f:List D→List D):(rings V f).map (·.1)=V.map (·.1):=by
 unfold rings;rw[JaW];rfl
def cM (V:List VS) (x:D):Bool:=V.any (fun v=>decide (x∈v.2.1))
def wh (V:List VS) (x:D):Nm:=match V.find? (fun v=>decide (x∈v.2.1)) with|some v=>v.1|none=>(0,0)
def cL (V:List VS) (x:Nm):List D:=match V.find? (fun v=>decide (v.1=x)) with|some v=>v.2.1|none=>[]
def bo (V:List VS) (x:Nm):Bool:=qg (fun v:VS=>v.1) V x
def bN (E:List EC) (x:Nm):Bool:=qg (fun e:EC=>e.1) E x
def eY (V:List VS) (v:VS):List VS:=eS (fun v:VS=>v.1) V v
def iP (E:List EC) (e:EC):List EC:=eS (fun e:EC=>e.1) E e
def dw (V:List VS) (x:Nm):List VS:=fY (fun v:VS=>v.1) V x
def js (E:List EC) (x:Nm):List EC:=fY (fun e:EC=>e.1) E x
def dS (d:D):Nm:=(d.1,d.2.1)
def aU (x:Nm) (s:Int):D:=(x.1,x.2,s)
def dJ (G:List Gn) (g:Gn):List Gn:=if (if (G.any fun y=>decide (y.1=g.1))=τ then G.length - 1 else G.length)≥400 then G else px G g
def nG (V:List VS) (G:List Gn) (c:Nm × D):Nm × D:=(c.1,if ml (cM V) G G.length c.2∈cL V c.1 then ml (cM V) G G.length c.2 else zD)
def iI (V:List VS) (x:D):D:=
 let l:=cL V (wh V x)
 let p:=mq l x
 let q:=if dS p=dS x then mq l p else p
 if dS q=dS x then zD else q
def dW (V:List VS) (c:Nm × D) (x:D):List VS:=bZ V c.1 (aS (np (cL V c.1) c.2 x))
def mr (V:List VS) (x:D):List VS:=bZ V (wh V x) (aS (AF (cL V (wh V x)) x))
def dn (V:List VS) (o x:D):List VS:=bZ V (wh V o) (aS (fo (cL V (wh V o)) o x))
def cp:SS:=([],[],[])
section
variable (P:List VS→List EC→Bool)
def jG (S:SS) (x:Nm):SS × Int:=
 if bo S.1 x=τ then(cp,12) else if 24≤S.1.length then(cp,3) else((eY S.1 (x,[],Jaf,0),S.2),0)
def jD (S:SS) (x:Nm):SS × Int:=
 if bo S.1 x=ρ then(cp,13) else if ¬cL S.1 x=[] then(cp,14) else((dw S.1 x,S.2),0)
def kr (S:SS) (x:Nm) (a b:Nm × D):SS × Int:=
 if bN S.2.1 x=τ then(cp,12) else if 40≤S.2.1.length then(cp,3)
 else if bo S.1 a.1=ρ∨bo S.1 b.1=ρ then(cp,13)
 else
  let V1:=dW S.1 (nG S.1 S.2.2 a) (aU x 0)
  let V2:=dW V1 (if b.2=aU x 0 then b else nG S.1 S.2.2 b) (aU x 1)
  if P V2 (iP S.2.1 (x,Jaf,0))=τ then((V2,iP S.2.1 (x,Jaf,0),S.2.2),0) else(cp,15)
def wm (S:SS) (x:Nm):SS × Int:=
 if bN S.2.1 x=ρ then(cp,13)
 else((mr (mr S.1 (aU x 0)) (aU x 1),js S.2.1 x,dJ (dJ S.2.2 (aU x 0,iI S.1 (aU x 0))) (aU x 1,iI S.1 (aU x 1))),0)
def cx (S:SS) (x nw ot:Nm) (n:Int):SS × Int:=
 if bN S.2.1 x=ρ then(cp,13)
 else if bo S.1 nw=τ∨bN S.2.1 ot=τ then(cp,12)
 else if 24≤S.1.length∨40≤S.2.1.length then(cp,3)
 else
  let m:=aU x (1 - n.tmod 2)
  let k:=aU ot (n.tdiv 2)
  ((eY (dn S.1 m (aU ot (1 - n.tdiv 2))) (nw,aS [m,k],Jaf,0),iP S.2.1 (ot,Jaf,0),S.2.2),0)
def gH (l:List D) (ot:Nm):Option (D × D):=match l with
 |[a,b]=>if dS a=dS b then ε else if dS a=ot then ζ (b,a) else if dS b=ot then ζ (a,b) else ε
 |_=>ε
def cV (S:SS) (x ot:Nm):SS × Int:=
 if bo S.1 x=ρ then(cp,13)
 else match gH (cL S.1 x) ot with
  |none=>(cp,14)
  |some (a,b)=>
   let far:D:=(b.1,b.2.1,1 - b.2.2)
   ((dn (dw S.1 x) far a,js S.2.1 ot,dJ (dJ S.2.2 (aU ot 0,if aU ot 0=far then a else zD)) (aU ot 1,if aU ot 1=far then a else zD)),0)
def oP (V:List VS) (x:Nm) (f:ByteArray × Int→ByteArray × Int):List VS:=V.map (fun v=>if v.1=x then(v.1,v.2.1,f v.2.2) else v)
def tl (E:List EC) (x:Nm) (f:ByteArray × Int→ByteArray × Int):List EC:=E.map (fun e=>if e.1=x then(e.1,f e.2) else e)
def setS (S:SS) (x:Nm) (e:Bool) (f:ByteArray × Int→ByteArray × Int):SS × Int:=
 if e=τ then(if bN S.2.1 x=τ then((S.1,tl S.2.1 x f,S.2.2),0) else(cp,13))
 else if bo S.1 x=τ then((oP S.1 x f,S.2),0) else(cp,13)
end
structure e7 (S:SS):Prop where
 vup:pW (fun v:VS=>v.1) S.1
 eup:pW (fun e:EC=>e.1) S.2.1
 once:(S.1.flatMap (fun v=>v.2.1)).Nodup
 turned:∀v∈S.1,aS v.2.1=v.2.1
 known:∀v∈S.1,∀d∈v.2.1,bN S.2.1 (dS d)=τ∧(d.2.2=0∨d.2.2=1)
 ends:∀e∈S.2.1,cM S.1 (aU e.1 0)=τ∧cM S.1 (aU e.1 1)=τ
theorem fR:∀{V:List VS} {u v:VS} {x:D},(V.flatMap (fun v=>v.2.1)).Nodup→u∈V→v∈V→x∈u.2.1→x∈v.2.1→u=v
 |[],_,_,_,_,hu,_,_,_=>by cases hu
 |w::V,u,v,x,h,hu,hv,h1,h2=>by
  rw[Jby,JaL] at h;obtain⟨ha,hb,hc⟩:=h;rcases Η.1 hu with e1|e1<;>rcases Η.1 hv with e2|e2
  ·rw[e1,e2]
  ·exact absurd rfl (hc x (e1▸h1) x (Jat.2 ⟨v,e2,h2⟩))
  ·exact absurd rfl (hc x (e2▸h2) x (Jat.2 ⟨u,e1,h1⟩))
  ·exact fR hb e1 e2 h1 h2
theorem dq {V:List VS} {x:D}:cM V x=τ↔∃v∈V,x∈v.2.1:=by simp[cM]
theorem wK {α:Type} {p:α→Bool}:∀{l:List α} {u:α},u∈l→p u=τ→(∀v∈l,p v=τ→v=u)→l.find? p=ζ u
 |[],_,hu,_,_=>by cases hu
 |w::l,u,hu,hp,h=>by
  by_cases hw:p w=τ
  ·rw[List.find?_cons_of_pos hw,h w Jai hw]
  ·rw[List.find?_cons_of_neg hw];rcases Η.1 hu with e|e
   ·exact absurd (e▸hp) hw
   ·exact wK e hp (fun v hv=>h v (Jad _ hv))
theorem Gd {V:List VS} (h:(V.flatMap (fun v=>v.2.1)).Nodup) {u:VS} (hu:u∈V) {x:D} (hx:x∈u.2.1):wh V x=u.1:=by
 unfold wh;rw[wK (u:=u) hu (decide_eq_true hx) (fun v hv hp=>fR h hv hu (of_decide_eq_true hp) hx)]
theorem lE {V:List VS} (h:(V.map (·.1)).Nodup) {u:VS} (hu:u∈V):cL V u.1=u.2.1:=by
 unfold cL;rw[wK (u:=u) hu (decide_eq_true rfl) (fun v hv hp=>rO h hv hu (of_decide_eq_true hp))]
theorem FW {V:List VS} (hk:(V.map (·.1)).Nodup) (ho:(V.flatMap (fun v=>v.2.1)).Nodup) {x:D} (hx:cM V x=τ) {f:List D→List D} (hf:∀v∈V,¬x∈v.2.1→f v.2.1=v.2.1):
 rings V f=bZ V (wh V x) (f (cL V (wh V x))):=by
 obtain⟨u,hu,sW⟩:=dq.1 hx;rw[Gd ho hu sW,lE hk hu];exact Ny hk hu (fun v hv cu=>hf v hv (fun q=>cu (by rw[fR ho hv hu q sW])))
theorem QO {l:List D} {d:D} (h:¬d∈l):AF l d=l:=by unfold AF;rw[if_neg h]
theorem AN {l:List D} {o d:D} (h:¬o∈l):fo l o d=l:=by unfold fo;rw[if_neg (fun q=>h q.1)]
theorem qy {V:List VS} (hk:(V.map (·.1)).Nodup) (ho:(V.flatMap (fun v=>v.2.1)).Nodup) (ht:∀v∈V,aS v.2.1=v.2.1) {o x:D} (hx:cM V o=τ):rings V (fun l=>aS (fo l o x))=dn V o x:=
 FW hk ho hx (fun v hv hn=>by show aS (fo v.2.1 o x)=v.2.1;rw[AN hn,ht v hv])
theorem Bu {L:List D} {i:Nat} (h:i<L.length):L.getD i (0,0,0)=L[i]:=by
 rw[χ,List.getElem?_eq_getElem h];rfl
def wu (A B:List D):Prop:=∃X Y,A=X++Y∧B=Y++X
theorem wu.symm {A B:List D} (h:wu A B):wu B A:=by
 obtain⟨X,Y,rfl,rfl⟩:=h;exact⟨Y,X,rfl,rfl⟩
theorem wu.trans {A B C:List D} (h:wu A B) (k:wu B C):wu A C:=by
 obtain⟨X,Y,rfl,rfl⟩:=h;obtain⟨U,V,e,rfl⟩:=k;rcases List.append_eq_append_iff.1 e with⟨Z,h1,h2⟩|⟨Z,h1,h2⟩
 ·exact⟨Z,V++Y,by rw[h2];simp,by rw[h1];simp⟩
 ·exact⟨X++U,Z,by rw[h1];simp,by rw[h2];simp⟩
theorem wu.len {A B:List D} (h:wu A B):A.length=B.length:=by
 obtain⟨X,Y,rfl,rfl⟩:=h;simp only[Ε];omega
theorem wu.mem {A B:List D} (h:wu A B) (d:D):d∈A↔d∈B:=by
 obtain⟨X,Y,rfl,rfl⟩:=h;simp only[Jan];exact Or.comm
theorem wu.nodup {A B:List D} (h:wu A B) (n:A.Nodup):B.Nodup:=by
 obtain⟨X,Y,rfl,rfl⟩:=h;rw[JaL] at n ⊢;exact⟨n.2.1,n.1,fun a ha b hb e=>n.2.2 b hb a ha e.symm⟩
theorem wu.filter {A B:List D} (h:wu A B) (p:D→Bool):wu (A.filter p) (B.filter p):=by
 obtain⟨X,Y,rfl,rfl⟩:=h;exact⟨X.filter p,Y.filter p,by simp,by simp⟩
theorem wu.map {A B:List D} (h:wu A B) (f:D→D):wu (A.map f) (B.map f):=by
 obtain⟨X,Y,rfl,rfl⟩:=h;exact⟨X.map f,Y.map f,by simp,by simp⟩
theorem TC (L:List D) (k:Nat):wu L (L.drop k++L.take k):=⟨L.take k,L.drop k,by simp,rfl⟩
theorem iT (L:List D):wu L (aS L):=TC L _
theorem sy (L:List D):∀k,∀j,j<k→p8 (L.getD (di L k) (0,0,0)) (L.getD j (0,0,0))≤0
 |0,j,h=>by omega
 |k+1,j,h=>by
  simp only[di];split
  ·rename_i fh
   by_cases hj:j=k
   ·subst hj;rw[JX];omega
   ·have:=sy L k j (by omega)
    exact FK _ _ _ (by omega) this
  ·rename_i Sg
   by_cases hj:j=k
   ·subst hj;rw[Ei];omega
   ·exact sy L k j (by omega)
theorem FE (L:List D) (h:0<L.length):(aS L).getD 0 (0,0,0)=L.getD (di L L.length) (0,0,0):=by
 have hl:=qx L L.length h;unfold aS;rw[χ,List.getElem?_append_left (by simp;omega),List.getElem?_drop,Nat.add_zero,χ]
theorem zu (L:List D) (h:0<L.length) (d:D) (hd:d∈L):p8 ((aS L).getD 0 (0,0,0)) d≤0:=by
 rw[FE L h];obtain⟨i,hi,he⟩:=List.getElem_of_mem hd
 have:=sy L L.length i hi
 rw[Bu hi,he] at this;exact this
theorem Uf {A B:List D} (h:wu A B) (n:A.Nodup) (hd:0<A.length→A.getD 0 (0,0,0)=B.getD 0 (0,0,0)):A=B:=by
 obtain⟨X,Y,rfl,rfl⟩:=h;cases X with
 |nil=>simp
 |cons a X=>
  cases Y with
  |nil=>simp
  |cons b Y=>
   have:a=b:=by simpa using hd (by simp)
   subst this;simp at n
theorem Dp {A B:List D} (h:wu A B) (n:A.Nodup):aS A=aS B:=by
 have h1:wu (aS A) (aS B):=(iT A).symm.trans (h.trans (iT B));refine Uf h1 ((iT A).nodup n) fun hl=>?_
 rw[dI] at hl;have hl':0<B.length:=by rw[←h.len];exact hl
 have m1:(aS A).getD 0 (0,0,0)∈A:=by
  rw[(iT A).mem,Bu (by rw[dI];exact hl)];exact Jbs _
 have m2:(aS B).getD 0 (0,0,0)∈B:=by
  rw[(iT B).mem,Bu (by rw[dI];exact hl')];exact Jbs _
 have a1:=zu A hl _ ((h.mem _).2 m2);have a2:=zu B hl' _ ((h.mem _).1 m1);rw[Ei] at a2;exact(Ab _ _).1 (by omega)
theorem qv {A:List D} (n:A.Nodup):aS (aS A)=aS A:=(Dp (iT A) n).symm
theorem ks {L:List D} {d:D}:d∈aS L↔d∈L:=((iT L).mem d).symm
theorem lB {L:List D} (h:L.Nodup):(aS L).Nodup:=(iT L).nodup h
theorem OX {l:List D} {d:D} (h:d∈l):AF l d=l.eraseIdx (l.idxOf d):=by
 unfold AF;rw[if_pos h,List.eraseIdx_eq_take_drop_succ]
theorem sB (l:List D) (d:D):AF l d=l.erase d:=by
 by_cases h:d∈l
 ·rw[OX h,List.erase_eq_eraseIdx_of_idxOf rfl]
 ·rw[QO h,List.erase_of_not_mem h]
theorem CX {l:List D} {d e:D} (h:l.Nodup):e∈AF l d↔e≠d∧e∈l:=by rw[sB];exact h.mem_erase_iff
theorem xt {l:List D} {d:D} (h:l.Nodup):(AF l d).Nodup:=by rw[sB];exact h.erase d
theorem nM:∀{V:List VS} {v:VS},(V.flatMap (fun v=>v.2.1)).Nodup→v∈V→v.2.1.Nodup
 |[],_,_,hv=>by cases hv
 |w::V,v,h,hv=>by
  rw[Jby,JaL] at h;rcases Η.1 hv with e|e
  ·rw[e];exact h.1
  ·exact nM h.2.1 e
theorem Cw {V:List VS} {x:Nm} {l:List D} (h:¬x∈V.map (·.1)):bZ V x l=V:=by
 unfold bZ;rw[JaV (g:=id) (fun v hv=>by rw[if_neg (fun e=>h (Α.2 ⟨v,hv,e⟩))];rfl),List.map_id]
theorem lx {V:List VS} {x:Nm} {l:List D} {v:VS} (h:v∈bZ V x l):(v∈V∧¬v.1=x)∨∃u∈V,u.1=x∧v=uk u l:=by
 obtain⟨u,hu,rfl⟩:=Α.1 h
 by_cases e:u.1=x
 ·exact .inr ⟨u,hu,e,by show(if u.1=x then uk u l else u)=_;rw[if_pos e]⟩
 ·have e2:(if u.1=x then uk u l else u)=u:=if_neg e;exact .inl ⟨by rw[e2];exact hu,by rw[e2];exact e⟩
theorem I6 {x:Nm} {l:List D}:∀{V:List VS},(V.map (·.1)).Nodup→(V.flatMap (fun v=>v.2.1)).Nodup→l.Nodup→(∀d∈l,∀v∈V,¬v.1=x→¬d∈v.2.1)→((bZ V x l).flatMap (fun v=>v.2.1)).Nodup
 |[],_,_,_,_=>List.nodup_nil
 |w::V,hk,ho,hl,hd=>by
  rw[ι,JaJ] at hk;rw[Jby,JaL] at ho;obtain⟨o1,o2,o3⟩:=ho;have ih:=I6 (x:=x) (l:=l) hk.2 o2 hl (fun d h v hv=>hd d h v (Jad _ hv))
  by_cases e:w.1=x
  ·have e1:bZ (w::V) x l=uk w l::V:=by
    have:=Cw (V:=V) (x:=x) (l:=l) (e▸hk.1)
    unfold bZ at this ⊢;rw[ι,this,if_pos e]
   rw[e1,Jby,JaL]
   refine⟨hl,o2,fun a ha b hb q=>?_⟩
   obtain⟨v,hv,UW⟩:=Jat.1 hb;have cu:¬v.1=x:=fun q2=>hk.1 (Α.2 ⟨v,hv,by rw[q2,e]⟩)
   exact hd b (q▸ha) v (Jad _ hv) cu UW
  ·have e1:bZ (w::V) x l=w::bZ V x l:=by
    unfold bZ;rw[ι,if_neg e]
   rw[e1,Jby,JaL]
   refine⟨o1,ih,fun a ha b hb q=>?_⟩
   obtain⟨v,hv,UW⟩:=Jat.1 hb;rcases lx hv with⟨h1,h2⟩|⟨u,hu,h1,h2⟩
   ·exact o3 a ha b (Jat.2 ⟨v,h1,UW⟩) q
   ·rw[h2] at UW;exact hd b UW w Jai e (q▸ha)
theorem BI {V:List VS} {x:Nm} {l:List D} {d:D} (hk:(V.map (·.1)).Nodup) {u:VS} (hu:u∈V) (hux:u.1=x):cM (bZ V x l) d=τ↔d∈l∨∃v∈V,¬v.1=x∧d∈v.2.1:=by
 rw[dq];constructor
 ·rintro⟨v,hv,hd⟩;rcases lx hv with⟨h1,h2⟩|⟨w,hw,h1,h2⟩
  ·exact .inr ⟨v,h1,h2,hd⟩
  ·rw[h2] at hd;exact .inl hd
 ·rintro (hd|⟨v,hv,cu,hd⟩)
  ·exact⟨uk u l,Α.2 ⟨u,hu,if_pos hux⟩,hd⟩
  ·exact⟨v,Α.2 ⟨v,hv,if_neg cu⟩,hd⟩
structure wj (V:List VS):Prop where
 keys:(V.map (·.1)).Nodup
 once:(V.flatMap (fun v=>v.2.1)).Nodup
 turned:∀v∈V,aS v.2.1=v.2.1
theorem e7.rg {S:SS} (h:e7 S):wj S.1:=⟨h.vup.nodup,h.once,h.turned⟩
theorem wj.at_ {V:List VS} (h:wj V) {x:Nm} {l:List D} (hl:l.Nodup) (ht:aS l=l) (hd:∀d∈l,∀v∈V,¬v.1=x→¬d∈v.2.1):wj (bZ V x l):=
 ⟨by rw[ic];exact h.keys,I6 h.keys h.once hl hd,fun v hv=>by
  rcases lx hv with⟨h1,h2⟩|⟨u,hu,h1,h2⟩
  ·exact h.turned v h1
  ·rw[h2];exact ht⟩
theorem wj.rem {V:List VS} (h:wj V) {x:D} (hx:cM V x=τ):wj (mr V x)∧∀d,cM (mr V x) d=τ↔d≠x∧cM V d=τ:=by
 obtain⟨u,hu,sW⟩:=dq.1 hx;have hn:=nM h.once hu;unfold mr;rw[Gd h.once hu sW,lE h.keys hu]
 refine⟨h.at_ (lB (xt hn)) (qv (xt hn)) (fun d hd v hv cu q=>?_),fun d=>?_⟩
 ·have h1:=((CX hn).1 (ks.1 hd)).2;exact cu (by rw[fR h.once hv hu q h1])
 ·rw[BI h.keys hu rfl,ks,CX hn,dq];constructor
  ·rintro (⟨h1,h2⟩|⟨v,hv,cu,hd⟩)
   ·exact⟨h1,u,hu,h2⟩
   ·exact⟨fun e=>cu (by rw[fR h.once hv hu hd (e▸sW)]),v,hv,hd⟩
  ·rintro⟨cu,v,hv,hd⟩
   by_cases e:v.1=u.1
   ·exact .inl ⟨cu,by rw[←rO h.keys hv hu e];exact hd⟩
   ·exact .inr ⟨v,hv,e,hd⟩
theorem NB {l:List D} {o x:D} (ho:o∈l) (hx:¬x∈l):fo l o x=l.set (l.idxOf o) x:=by
 unfold fo;rw[if_pos ⟨ho,hx⟩,List.set_eq_take_append_cons_drop,if_pos (List.idxOf_lt_length_of_mem ho)]
theorem tm {l:List D} {o x:D} (hn:l.Nodup) (ho:o∈l) (hx:¬x∈l):fo l o x=l.map (fun d=>if d=o then x else d):=by
 rw[NB ho hx]
 induction l with
 |nil=>cases ho
 |cons a l ih=>
  rw[JaJ] at hn
  by_cases e:a=o
  ·subst e;rw[List.idxOf_cons_self,List.set_cons_zero,ι,if_pos rfl];congr 1;have h9:l.map (fun d=>if d=a then x else d)=l.map id:=JaV (fun d hd=>if_neg (fun q:d=a=>hn.1 (q▸hd)));rw[h9,List.map_id]
  ·have ho':o∈l:=(Η.1 ho).resolve_left (fun q=>e q.symm)
   have h8:(a::l).idxOf o=l.idxOf o+1:=by
    rw[List.idxOf_cons,show(a==o)=ρ by simpa using e];rfl
   rw[h8,List.set_cons_succ,ι,if_neg e,ih hn.2 ho' (fun q=>hx (Jad _ q))]
theorem tz {l:List D} {o x d:D} (hn:l.Nodup) (ho:o∈l) (hx:¬x∈l):d∈fo l o x↔d=x∨(d≠o∧d∈l):=by
 rw[tm hn ho hx,Α];constructor
 ·rintro⟨a,ha,rfl⟩
  by_cases e:a=o
  ·rw[if_pos e];exact .inl rfl
  ·rw[if_neg e];exact .inr ⟨e,ha⟩
 ·rintro (rfl|⟨h1,h2⟩)
  ·exact⟨o,ho,if_pos rfl⟩
  ·exact⟨d,h2,if_neg h1⟩
theorem sR {l:List D} {o x:D} (hn:l.Nodup) (ho:o∈l) (hx:¬x∈l):(fo l o x).Nodup:=by
 rw[tm hn ho hx,List.Nodup,Jbg];refine hn.imp_of_mem (fun {a b} ha hb Ey=>?_)
 by_cases e1:a=o<;>by_cases e2:b=o
 ·exact absurd (e1.trans e2.symm) Ey
 ·rw[if_pos e1,if_neg e2];exact fun q=>hx (q▸hb)
 ·rw[if_neg e1,if_pos e2];exact fun q=>hx (q▸ha)
 ·rw[if_neg e1,if_neg e2];exact Ey
theorem zS {l:List D} {a x d:D} (hx:¬x∈l):d∈np l a x↔d=x∨d∈l:=by
 unfold np;rw[if_neg hx];obtain⟨j,gj⟩:=ay ((max (iM l a) 0).toNat+1);rw[gj,Jan,Η];have h:d∈l↔d∈l.take j∨d∈l.drop j:=by rw[←Jan,Jbf]
 rw[h];constructor
 ·rintro (h|h|h)
  ·exact .inr (.inl h)
  ·exact .inl h
  ·exact .inr (.inr h)
 ·rintro (h|h|h)
  ·exact .inr (.inl h)
  ·exact .inl h
  ·exact .inr (.inr h)
theorem x8 {l:List D} {a x:D} (hn:l.Nodup) (hx:¬x∈l):(np l a x).Nodup:=by
 unfold np;rw[if_neg hx];obtain⟨j,gj⟩:=ay ((max (iM l a) 0).toNat+1);rw[gj];have h1:(l.take j++l.drop j).Nodup:=by rw[Jbf];exact hn
 rw[JaL] at h1 ⊢
 refine⟨h1.1,JaJ.2 ⟨fun q=>hx (List.mem_of_mem_drop q),h1.2.1⟩,fun p hp q hq e=>?_⟩
 rcases Η.1 hq with e2|hq
 ·exact hx (List.mem_of_mem_take (e2▸e▸hp))
 ·exact h1.2.2 p hp q hq e
theorem qB {V:List VS} {x:D} (h:cM V x=ρ) {v:VS} (hv:v∈V):¬x∈v.2.1:=fun q=>by
 have:=dq.2 ⟨v,hv,q⟩
 rw[h] at this;cases this
theorem wj.swp {V:List VS} (h:wj V) {o x:D} (ho:cM V o=τ) (hx:cM V x=ρ):wj (dn V o x)∧∀d,cM (dn V o x) d=τ↔d=x∨(d≠o∧cM V d=τ):=by
 obtain⟨u,hu,Wg⟩:=dq.1 ho;have hn:=nM h.once hu;have sW:=qB hx hu;unfold dn;rw[Gd h.once hu Wg,lE h.keys hu]
 refine⟨h.at_ (lB (sR hn Wg sW)) (qv (sR hn Wg sW)) (fun d hd v hv cu q=>?_),fun d=>?_⟩
 ·rcases (tz hn Wg sW).1 (ks.1 hd) with e|⟨-,h1⟩
  ·exact qB hx hv (e▸q)
  ·exact cu (by rw[fR h.once hv hu q h1])
 ·rw[BI h.keys hu rfl,ks,tz hn Wg sW,dq];constructor
  ·rintro ((h1|⟨h1,h2⟩)|⟨v,hv,cu,hd⟩)
   ·exact .inl h1
   ·exact .inr ⟨h1,u,hu,h2⟩
   ·exact .inr ⟨fun e=>cu (by rw[fR h.once hv hu hd (e▸Wg)]),v,hv,hd⟩
  ·rintro (h1|⟨cu,v,hv,hd⟩)
   ·exact .inl (.inl h1)
   ·by_cases e:v.1=u.1
    ·exact .inl (.inr ⟨cu,by rw[←rO h.keys hv hu e];exact hd⟩)
    ·exact .inr ⟨v,hv,e,hd⟩
theorem wj.ins {V:List VS} (h:wj V) {c:Nm × D} {x:D} (hc:bo V c.1=τ) (hx:cM V x=ρ):wj (dW V c x)∧∀d,cM (dW V c x) d=τ↔d=x∨cM V d=τ:=by
 obtain⟨u,hu,hcu⟩:=eB.1 hc;have hn:=nM h.once hu;have sW:=qB hx hu;unfold dW;rw[←hcu,lE h.keys hu]
 refine⟨h.at_ (lB (x8 hn sW)) (qv (x8 hn sW)) (fun d hd v hv cu q=>?_),fun d=>?_⟩
 ·rcases (zS sW).1 (ks.1 hd) with e|h1
  ·exact qB hx hv (e▸q)
  ·exact cu (by rw[fR h.once hv hu q h1])
 ·rw[BI h.keys hu rfl,ks,zS sW,dq];constructor
  ·rintro ((h1|h2)|⟨v,hv,cu,hd⟩)
   ·exact .inl h1
   ·exact .inr ⟨u,hu,h2⟩
   ·exact .inr ⟨v,hv,hd⟩
  ·rintro (h1|⟨v,hv,hd⟩)
   ·exact .inl (.inl h1)
   ·by_cases e:v.1=u.1
    ·exact .inl (.inr (by rw[←rO h.keys hv hu e];exact hd))
    ·exact .inr ⟨v,hv,e,hd⟩
theorem nR {V W:List VS} (h:pW (fun v:VS=>v.1) V) (e:W.map (·.1)=V.map (·.1)):pW (fun v:VS=>v.1) W:=by
 unfold pW at h ⊢;have h1:(V.map (·.1)).Pairwise (fun a b=>dF a b<0):=Jbg.2 h;rw[←e] at h1;exact Jbg.1 h1
theorem jT (V:List VS) (o x:D):(dn V o x).map (·.1)=V.map (·.1):=ic _ _ _
theorem xL (V:List VS) (x:D):(mr V x).map (·.1)=V.map (·.1):=ic _ _ _
theorem rU (V:List VS) (c:Nm × D) (x:D):(dW V c x).map (·.1)=V.map (·.1):=ic _ _ _
theorem nj {V W:List VS} (e:W.map (·.1)=V.map (·.1)) (x:Nm):bo W x=bo V x:=by
 have h:∀U:List VS,bo U x=(U.map (·.1)).any (fun k=>decide (k=x)):=fun U=>by
  unfold bo qg;rw[List.any_map];rfl
 rw[h,h,e]
theorem e7.mk_ {V:List VS} {E:List EC} {G:List Gn} (hv:pW (fun v:VS=>v.1) V) (he:pW (fun e:EC=>e.1) E) (hr:wj V) (hk:∀d,cM V d=τ→bN E (dS d)=τ∧(d.2.2=0∨d.2.2=1)) (ZB:∀x,bN E x=τ→cM V (aU x 0)=τ∧cM V (aU x 1)=τ):e7 (V,E,G):=
 ⟨hv,he,hr.once,hr.turned,fun v h d hd=>hk d (dq.2 ⟨v,h,hd⟩),fun e h=>ZB e.1 (eB.2 ⟨e,h,rfl⟩)⟩
theorem e7.std {S:SS} (h:e7 S) {d:D} (hd:cM S.1 d=τ):bN S.2.1 (dS d)=τ∧(d.2.2=0∨d.2.2=1):=by
 obtain⟨v,hv,hd⟩:=dq.1 hd;exact h.known v hv d hd
theorem e7.end_ {S:SS} (h:e7 S) {x:Nm} (hx:bN S.2.1 x=τ):cM S.1 (aU x 0)=τ∧cM S.1 (aU x 1)=τ:=by
 obtain⟨e,he,rfl⟩:=eB.1 hx;exact h.ends e he
theorem e7.no_ {S:SS} (h:e7 S) {d:D} (hx:bN S.2.1 (dS d)=ρ):cM S.1 d=ρ:=by
 cases hq:cM S.1 d with
 |false=>rfl
 |true=>have:=(h.std hq).1;rw[hx] at this;cases this
theorem oB {d:D} {x:Nm} {s:Int} (h1:dS d=x) (h2:d.2.2=s):d=aU x s:=by
 obtain⟨a,b,c⟩:=d;subst h1;subst h2;rfl
theorem ti {E:List EC} {x y:Nm}:bN (js E x) y=τ↔y≠x∧bN E y=τ:=by
 unfold bN js;rw[eB,eB];constructor
 ·rintro⟨e,he,rfl⟩;obtain⟨h1,h2⟩:=JaC.1 he;exact⟨of_decide_eq_true h2,e,h1,rfl⟩
 ·rintro⟨cu,e,he,rfl⟩;exact⟨e,JaC.2 ⟨he,decide_eq_true cu⟩,rfl⟩
theorem kt {E:List EC} {e:EC} {y:Nm}:bN (iP E e) y=τ↔y=e.1∨bN E y=τ:=by
 unfold bN iP;rw[eB,eB];constructor
 ·rintro⟨u,hu,rfl⟩;rcases dx.1 hu with rfl|h
  ·exact .inl rfl
  ·exact .inr ⟨u,h,rfl⟩
 ·rintro (rfl|⟨u,hu,rfl⟩)
  ·exact⟨e,dx.2 (.inl rfl),rfl⟩
  ·exact⟨u,dx.2 (.inr hu),rfl⟩
theorem e7.unlink {S:SS} (h:e7 S) {x:Nm} (hx:bN S.2.1 x=τ) (G:List Gn):e7 (mr (mr S.1 (aU x 0)) (aU x 1),js S.2.1 x,G):=by
 obtain⟨h0,h1⟩:=h.end_ hx;obtain⟨r1,m1⟩:=h.rg.rem h0
 have cu:aU x 1≠aU x 0:=fun e=>by
  have:(1:Int)=0:=congrArg (fun d:D=>d.2.2) e
  omega
 obtain⟨r2,m2⟩:=r1.rem ((m1 _).2 ⟨cu,h1⟩);refine e7.mk_ (nR h.vup (by rw[xL,xL])) (tB h.eup) r2 (fun d hd=>?_) (fun y hy=>?_)
 ·obtain⟨n1,hd⟩:=(m2 d).1 hd;obtain⟨n0,hd⟩:=(m1 d).1 hd;obtain⟨k1,k2⟩:=h.std hd
  refine⟨ti.2 ⟨fun e=>?_,k1⟩,k2⟩
  rcases k2 with k2|k2
  ·exact n0 (oB e k2)
  ·exact n1 (oB e k2)
 ·obtain⟨G1,hy⟩:=ti.1 hy;obtain⟨q0,q1⟩:=h.end_ hy;have ned:∀s t:Int,aU y s≠aU x t:=fun s t e=>G1 (congrArg dS e)
  exact⟨(m2 _).2 ⟨ned _ _,(m1 _).2 ⟨ned _ _,q0⟩⟩,(m2 _).2 ⟨ned _ _,(m1 _).2 ⟨ned _ _,q1⟩⟩⟩
end Go.Proofs.YtpdpbfmiahjiiaaGreat
