/- Several texts in one. -/
import Derived.Test.YtpdpbfmiahjiiaaGreatPzA
import Derived.Test.YtpdpbfmiahjiiaaGreatPzB
set_option linter.unusedSectionVars false
set_option linter.unusedSimpArgs false
set_option linter.unusedVariables false
set_option maxRecDepth 100000
set_option maxHeartbeats 16000000
namespace Go.Proofs.YtpdpbfmiahjiiaaGreat
open Go.RowKit
open _root_.Go.Value renaming slice→γ,string→μ,agg→φ,bool→Β,tuple→Ξ,slice→Ο,oneCell'→Τ
open _root_.Go.Obj renaming cells→δ
open _root_.Option renaming none→ε,some→ζ
open _root_.Go.Proofs.Tryz renaming prog→η
open _root_.List renaming getElem?_eq_getElem→θ,getElem?_eq_some_iff→ν,mem_of_getElem?→ω,length_append→Ε,mem_cons→Η,take_of_length_le→Ι,length_map→Ρ,all_eq_true→Φ,drop_eq_getElem_cons→Χ,mem_flatMap→Jat,drop_eq_nil_of_le→Jav,eq_nil_of_length_eq_zero→JaB,nodup_cons→JaJ,take_add_one→Jbc
open _root_.Go.Act renaming put→ξ
open _root_.Go renaming World→ο,Calls→Ζ,Addr→Κ,TypeId→Υ,maxLen→Jap,bodyPost_ret→JaN
open _root_.Bool renaming false→ρ,true→τ,and_eq_true→Jar
open _root_.Go.RowKit renaming Below→σ
open _root_.Nat renaming le_refl→Δ,le_trans→Λ,add_zero→Jac,zero_le→Jas,lt_of_lt_of_le→JaK
open _root_.Go.RowKit.Below renaming refl→Θ
open _root_.Go.Addr renaming add_lit→Ν
open _root_.Go.IntKind renaming i64→Jaw
open _root_.And renaming intro→Jax
open _root_.Exists renaming intro→JaG
open _root_.Prod.mk renaming injEq→Jba
open _root_.Go.IntWalk renaming i64_in→Jbb
open _root_.Int renaming toNat_natCast→Jbn
open _root_.Go.World renaming size_alloc→JbF
def GM (w:ο) (x:D) (ok:Bool) (e:Ending) (w':ο):Prop:=
 e=.returned (Ξ #[φ #[J x.1,J x.2.1,J x.2.2],Β ok])∧σ w.heap.size w w'
theorem Ez (A:Option Κ) (n c:Nat) (p:Int) (L:List D) (d:D) (w:ο) (h:bg w w.heap.size 3 A n c (aA L)) (hn:n≤1000000) (hp:d∈L→0≤p∧p≤1000000):
 Ζ η 169 #[γ A n c,φ #[J d.1,J d.2.1,J d.2.2],J p] w (GM w (uh L d p.toNat) (decide (d∈L))):=by
 have HI:=qh (fun W h=>il A n c L d W h (by omega));have H:=qh h;have hl:=h.dlen
 by_cases hd:d∈L
 ·obtain⟨R2,ob⟩:=hp hd;obtain⟨p,rfl⟩:=Int.eq_ofNat_of_zero_le R2;rw[Jbn];obtain⟨e1,e2⟩:=j3 hd;rw[e1] at HI;obtain⟨k,gk⟩:=aB (L.idxOf d);have hs:uh L d p=L.getD ((k+p) % n) (0,0,0):=by rw[uh,if_pos hd,gk,hl]
  rw[gk] at HI e2;have PH:k<n:=by omega
  obtain⟨b,off,rfl,hb,hc⟩:=h.darts (by omega);have hj:(k+p) % n<n:=Nat.mod_lt _ (by omega);have Fq:((k:Int)+(p:Int)) % (n:Int)=(((k+p) % n:Nat):Int):=by rw[Int.natCast_emod,Int.natCast_add]
  obtain⟨j,gj⟩:=aB ((k+p) % n);rw[gj] at hs hj Fq;obtain⟨c1,c2,c3⟩:=hc j (by omega);obtain⟨x,gx⟩:=aB (L.getD j (0,0,0));rw[gx] at hs c1 c2 c3;rw[hs,decide_eq_true hd];have C1:=qh c1;have C2:=qh c2;have C3:=qh c3;clear hs gx gj hc hd gk e1 e2 h hl c1 c2 c3 hp R2;go_enter Tryz.func169,Tryz.ntmps169
  go_wp2_with (first
   |(go_at_call 144;refine(HI.out _ (by exact H.out.up (cr _ _ _) (by simp<;>omega))).mono ?_;rintro e w2 ⟨rfl,aP⟩
     have HB:=qh (cW aP);have d1:=(HB.out.cell (p:=⟨b,off+j*3,ε⟩) hb).trans C1.out;have d2:=(HB.out.cell (p:=⟨b,off+j*3+1,ε⟩) hb).trans C2.out;have d3:=(HB.out.cell (p:=⟨b,off+j*3+2,ε⟩) hb).trans C3.out;have hz:=(Whole.new_ (w.alloc (δ #[J d.1,J d.2.1,J d.2.2] 32)) 32 [J 0,J 0,J 0]).below aP;simp only[JbF] at hz;have z0:=hz.cell (i:=0) rfl;have z1:=hz.cell (i:=1) rfl;have z2:=hz.cell (i:=2) rfl;have y0:=hz.free 0;have y1:=hz.free 1;have y2:=hz.free 2;clear aP hz))
  exact JaN (v:=Ξ #[φ #[J x.1,J x.2.1,J x.2.2],Β τ]) (by simp[results,Tryz.results169,go_sem,z0,z1,z2]) rfl ⟨rfl,((HB.out.setCell (by simp) _).setCell (by simp) _).setCell (by simp) _⟩
 ·have hs:uh L d p.toNat=(0,0,0):=by rw[uh,if_neg hd]
  rw[lK hd] at HI;rw[hs,decide_eq_false hd];clear hs h hd hl hp;go_enter Tryz.func169,Tryz.ntmps169
  go_wp2_with (first
   |(go_at_call 144;refine(HI.out _ (by exact H.out.up (cr _ _ _) (by simp<;>omega))).mono ?_;rintro e w2 ⟨rfl,aP⟩
     have HB:=qh (cW aP);have hz:=(Whole.new_ (w.alloc (δ #[J d.1,J d.2.1,J d.2.2] 32)) 32 [J 0,J 0,J 0]).below aP;simp only[JbF] at hz;have z0:=hz.cell (i:=0) rfl;have z1:=hz.cell (i:=1) rfl;have z2:=hz.cell (i:=2) rfl;have y0:=hz.free 0;have y1:=hz.free 1;have y2:=hz.free 2;clear aP hz))
  exact JaN (v:=Ξ #[φ #[J 0,J 0,J 0],Β ρ]) (by simp[results,Tryz.results169,go_sem,z0,z1,z2]) rfl ⟨rfl,((HB.out.setCell (by simp) _).setCell (by simp) _).setCell (by simp) _⟩
theorem yA (A:Option Κ) (n c:Nat) (L:List D) (d:D) (w:ο) (h:bg w w.heap.size 3 A n c (aA L)) (hn:n≤1000000):
 Ζ η 152 #[γ A n c,φ #[J d.1,J d.2.1,J d.2.2]] w (GM w (kT L d) (decide (d∈L))):=by
 have hs:kT L d=uh L d (((n:Int) - 1):Int).toNat:=by
  unfold kT;rw[show((n:Int) - 1).toNat=L.length - 1 by have:=h.dlen;omega]
 have HA:=qh (fun W h'=>Ez A n c ((n:Int) - 1) L d W h' hn (by intro hd;have:=List.length_pos_of_mem hd;have:=h.dlen;omega));rw[hs];have H:=qh h;clear h hs;obtain⟨x,gx⟩:=aB (uh L d (((n:Int) - 1):Int).toNat);obtain⟨ok,gok⟩:=aB (decide (d∈L));rw[gx,gok] at HA;rw[gx,gok];clear gx gok;go_enter Tryz.func152,Tryz.ntmps152
 go_wp2_with (first
  |(go_at_call 169;refine(HA.out _ (by exact H.out.up (cr _ _ _) (by simp<;>omega))).mono ?_;rintro e w2 ⟨rfl,aP⟩
    have HB:=qh (cW aP);have hz:=(Whole.new_ (w.alloc (δ #[J d.1,J d.2.1,J d.2.2] 32)) 32 [J 0,J 0,J 0]).below aP;simp only[JbF] at hz;have z0:=hz.cell (i:=0) rfl;have z1:=hz.cell (i:=1) rfl;have z2:=hz.cell (i:=2) rfl;have y0:=hz.free 0;have y1:=hz.free 1;have y2:=hz.free 2;clear aP hz))
 exact JaN (v:=Ξ #[φ #[J x.1,J x.2.1,J x.2.2],Β ok]) (by simp[results,Tryz.results152,go_sem,z0,z1,z2]) rfl ⟨rfl,((HB.out.setCell (by simp) _).setCell (by simp) _).setCell (by simp) _⟩
def ko (W:ο) (r:Rg):Prop:=r.2.2.1≤Jap∧bg W W.heap.size 3 r.1 r.2.1 r.2.2.1 (aA r.2.2.2)∧∀a,r.1=ζ a→∃cs,Whole W a.block 32 cs
theorem ko.bl {W W':ο} {r:Rg} (h:ko W r) (hb:σ W.heap.size W W'):ko W' r:=⟨h.1,h.2.1.bl hb,fun a ha=>(h.2.2 a ha).imp fun cs hc=>hc.bl hb⟩
theorem ko.grown {W W':ο} {r:Rg} {lo k n c:Nat} {T:Υ} {A:Option Κ} {xs:List Value} (h:ko W r) (ho:W.ownsRow lo T k (γ A n c) n xs) (hT:32≠T) (hg:W.grownBy W' (Ο A n c).ownBlock):ko W' r:=by
 have bj:∀a,r.1=ζ a→ζ a.block≠(Ο A n c).ownBlock:=fun a ha=>by
  obtain⟨cs,hw⟩:=h.2.2 a ha;exact bD ho hw hT
 exact⟨h.1,h.2.1.grown hg (fun a ha _=>bj a ha),fun a ha=>(h.2.2 a ha).imp fun cs hc=>hc.grown hg (bj a ha)⟩
theorem ko.cell {W:ο} {r:Rg} {g:Nat} {T:Υ} {cs:List Value} (h:ko W r) (hs:Whole W g T cs) (hT:32≠T) (i:Nat) (u:Value):ko (W.setCell ⟨g,i,ε⟩ u) r:=by
 have bj:∀a,r.1=ζ a→a.block≠g:=fun a ha=>by
  obtain⟨cs,hw⟩:=h.2.2 a ha;exact hw.ne_ hs hT
 exact⟨h.1,h.2.1.far (fun _ a ha=>bj a ha) u,fun a ha=>(h.2.2 a ha).imp fun cs hc=>hc.far (bj a ha) u⟩
theorem ko.of_own {W:ο} {lo n c:Nat} {A:Option Κ} {L:List D} (h:W.ownsRow lo 32 3 (γ A n c) n (aA L)):ko W (A,n,c,L):=by
 refine⟨nB h,aK h,fun a ha=>?_⟩
 rcases h.2 with⟨h1,h2⟩|⟨g,cap,cur,h1,hb,hg,-⟩
 ·injection h1 with a1
  rw[show(A,n,c,L).1=A from rfl,a1] at ha;cases ha
 ·injection h1 with a1
  rw[show(A,n,c,L).1=A from rfl,a1] at ha;cases ha;exact⟨cur.toList,by show W.heap[g]? =_;rw[hg,Array.toArray_toList]⟩
theorem ko.nil_ (W:ο):ko W (ε,0,0,[]):=⟨Jas _,bg.no _ _ _,fun a ha=>(by cases ha)⟩
def jx (w:ο) (L:List D) (e:Ending) (w':ο):Prop:=
 ∃A c,e=.returned (γ A L.length c)∧ko w' (A,L.length,c,L)∧σ w.heap.size w w'
theorem QX (A:Option Κ) (n c lo:Nat) (h1:lo≤n) (h2:n≤c):∃X,(∀W,(Instr.slice 57 (γ A n c) (ζ (J (lo:Int))) (ζ (J (n:Int))) (ζ (J (n:Int)))).run η W=.ok (γ X (n - lo) (n - lo)) W)∧
 (∀W B L,bg W B 3 A n c (aA L)→bg W B 3 X (n - lo) (n - lo) (aA (L.drop lo)))∧∀P:Nat→Prop,(∀a,A=ζ a→P a.block)→∀a,X=ζ a→P a.block:=by
 refine⟨if n=lo then A else A.map (·.add (lo*3)),fun W=>?_,fun W B L h=>?_,fun P h a e=>?_⟩
 ·rw[run_slice_lhm W 57 A n c qT .i64 .i64 .i64 lo n n (by omega) (by omega) (by omega) (by omega),rp];simp[sliced,Result.andThen]
 ·have:=h.piece h1 (Δ n) (Δ n) h2
  rwa [Ι (by rw[h.dlen];omega)] at this
 ·split at e
  ·exact h a e
  ·cases A with
   |none=>cases e
   |some a0=>
    cases e;show P (a0.add (lo*3)).block;rw[en];exact h a0 rfl
theorem oO (A:Option Κ) (n c:Nat) (Ps:List (List D)) (w:ο) (h:vx w A n Ps) (hn:n≤100) (hm:Ps.flatten.length≤1000000):
 Ζ η 153 #[γ A n c] w (jx w (aM Ps.flatten)):=by
 obtain⟨i0,hi,qJ,ly,kK⟩:=info_parts zv;have H:=qh h;clear h;go_enter Tryz.func153,Tryz.ntmps153;go_wp2;go_loopw [3,11] (fun v i wr=>∃k:Nat,k≤n∧i=J k∧Ow w w.heap.size 32 3 v (Ps.take k).flatten.length (aA (Ps.take k).flatten) wr) (fun _ i _=>n - (intOf i).toNat)
 case atStart=>exact⟨0,Jas _,rfl,by simpa [aA] using Ow.nil_ (Θ _ w) (Δ _) (Δ _)⟩
 case round=>
  obtain⟨k,hk,rfl,iC⟩:=hrel;have HO:=qh iC
  by_cases dz:k<n
  ·obtain⟨b,off,A',c',rfl,hb,hc,hr⟩:=(H.out.up (iC.below)).part k dz;have HR:=qh hr;have HF:=qh (I5 Ps k (by have:=H.out.len;omega))
   have hle:((Ps.take k).flatten.length+(Ps.getD k []).length)≤1000000:=by
    have:=R3 Ps (k+1)
    rw[HF.out,Ε] at this;omega
   clear iC hr;obtain⟨P,gP⟩:=aB (Ps.getD k []);rw[gP] at hc HR HF hle;clear gP
   go_wp2_with (first
    |(at_builtin
      refine oQ rfl (.tmp 15) (.tmp 16) _ rfl _ 32 i0 _ 3 24 Tryz.underlying57 hi qJ ly kK rfl (by decide) _ _ _ rfl (by exact HO.out) _ _ _ _ _ rfl (by exact HR.out) (im P) (by unfold Jap;omega) (by omega) ?_;intro v1 w1 fh cP;have nb:=qh fh;clear fh))
   go_roundw
   case rel=>
    refine⟨k+1,by omega,by go_num,?_⟩
    rw[HF.out,Ε,fM];exact nb.out
   case measure=>simp[intOf];omega
  ·have PH:k=n:=by omega
   have YX:Ps.take k=Ps:=Ι (by have:=H.out.len;omega);rw[YX] at HO;clear iC YX PH;obtain⟨L,gL⟩:=aB Ps.flatten;rw[gL] at HO hm;have GL:=qh gL;clear gL;obtain⟨A1,c1,hv,GS⟩:=HO.out.rds;subst hv;have Iv:∀a,A1=ζ a→∃cs,Whole wr a.block 32 cs:=fun a ha=>(ko.of_own (n:=L.length) (c:=c1) (A:=A1) (L:=L) HO.out.own).2.2 a ha
   have HFR:=qh Iv;clear Iv;have HR:=qh GS;clear GS;have HB:=qh HO.out.below;clear HO H;obtain⟨W1,rfl⟩:∃x:ο,x=wr:=⟨_,rfl⟩
   go_wp2;go_loopw [6,21] (fun lv i wr=>∃k:Nat,k≤L.length∧i=J k∧lv=J (cD L k:Int)∧σ W1.heap.size W1 wr) (fun _ i _=>L.length - (intOf i).toNat)
   case atStart=>exact⟨0,Jas _,rfl,rfl,Θ _ _⟩
   case round=>
    obtain⟨k2,rC,rfl,rfl,bC⟩:=hrel;have nf:=qh bC
    by_cases RM:k2<L.length
    ·obtain⟨b,off,rfl,hb,hc⟩:=(HR.out.up bC bC.size).darts (by omega);obtain⟨d1,d2,d3⟩:=hc k2 RM;have GV:=mU L k2;have Mg:cD L k2<L.length:=by omega
     obtain⟨e1,e2,e3⟩:=hc (cD L k2) Mg;have hs:cD L (k2+1)=if pA (L.getD k2 (0,0,0)) (L.getD (cD L k2) (0,0,0))<0 then k2 else cD L k2:=rfl
     obtain⟨m,gm⟩:=aB (cD L k2);rw[gm] at e1 e2 e3 GV Mg hs ⊢;obtain⟨x,gx⟩:=aB (L.getD k2 (0,0,0));obtain⟨y,gy⟩:=aB (L.getD m (0,0,0));rw[gx] at d1 d2 d3 hs;rw[gy] at e1 e2 e3 hs;have HOr:=qs x.1 x.2.1 x.2.2 y.1 y.2.1 y.2.2;have ho:jS x.1 x.2.1 x.2.2 y.1 y.2.1 y.2.2=pA x y:=rfl;obtain⟨ov,tJ⟩:=aB (pA x y);rw[ho,tJ] at HOr;rw[tJ] at hs;have Lp:=qh HOr;have HS:=qh hs;clear hc bC gm gx gy ho tJ HOr hs;go_upto_region 11 with fail
     obtain⟨X,gX⟩:=aB (wr.alloc (δ #[J x.1,J x.2.1,J x.2.2] 32));have Xn:σ wr.heap.size wr X:=by rw[←gX];exact az _ _
     have hX:Whole X wr.heap.size 32 [J x.1,J x.2.1,J x.2.2]:=by rw[←gX];exact Whole.new_ wr _ _
     obtain⟨g,gg⟩:=aB wr.heap.size;rw[gX,gg];rw[gg] at hX Xn;have f0:∀w',Kept aO X.drew w'→w'.cell? ⟨g,0,ε⟩=ζ (J x.1):=fun w' h=>h.nil_cell (hX.cell rfl)
     have f1:∀w',Kept aO X.drew w'→w'.cell? ⟨g,1,ε⟩=ζ (J x.2.1):=fun w' h=>h.nil_cell (hX.cell rfl)
     have f2:∀w',Kept aO X.drew w'→w'.cell? ⟨g,2,ε⟩=ζ (J x.2.2):=fun w' h=>h.nil_cell (hX.cell rfl)
     have f3:∀w',Kept aO X.drew w'→w'.cell? ⟨b,off+m*3,ε⟩=ζ (J y.1):=fun w' h=>h.nil_cell ((Xn.cell (by rw[←gg];exact hb)).trans e1)
     have f4:∀w',Kept aO X.drew w'→w'.cell? ⟨b,off+m*3+1,ε⟩=ζ (J y.2.1):=fun w' h=>h.nil_cell ((Xn.cell (by rw[←gg];exact hb)).trans e2)
     have f5:∀w',Kept aO X.drew w'→w'.cell? ⟨b,off+m*3+2,ε⟩=ζ (J y.2.2):=fun w' h=>h.nil_cell ((Xn.cell (by rw[←gg];exact hb)).trans e3)
     have hE:Hid (σ W1.heap.size W1 X):=nf.out.trans ((show σ wr.heap.size wr X by rw[gg];exact Xn).mono nf.out.size);clear hX Xn gX gg d1 d2 d3 e1 e2 e3
     by_cases ho:ov<0
     ·rw[if_pos ho] at HS;refine ay (aO) (by kernel_rfl) ?_;refine aa 0 ?_;refine aa 1 ?_;refine aa 2 ?_;refine aa 3 ?_;refine aa 4 ?_;refine cV 5 (hy:=by apply bP;rfl;rotate_left;intro w' aC;exact Lp.out w';intro w';go_simp) (h:=?_);refine aa 6 ?_;refine aF (by kernel_rfl) ?_ _;intro w' aC;have DV:Hid (σ W1.heap.size W1 w'):=(hE.out.drew).trans (aC.mono (by have:=hE.out.size;simpa using this));clear f0 f1 f2 f3 f4 f5 aC;go_wp2;go_roundw
      case rel=>exact⟨k2+1,by omega,by go_num,by rw[HS.out],DV.out⟩
      case measure=>simp[intOf];omega
     ·rw[if_neg ho] at HS;refine ay (aO) (by kernel_rfl) ?_;refine aa 0 ?_;refine aa 1 ?_;refine aa 2 ?_;refine aa 3 ?_;refine aa 4 ?_;refine cV 5 (hy:=by apply bP;rfl;rotate_left;intro w' aC;exact Lp.out w';intro w';go_simp) (h:=?_);refine aa 6 ?_;refine aF (by kernel_rfl) ?_ _;intro w' aC;have DV:Hid (σ W1.heap.size W1 w'):=(hE.out.drew).trans (aC.mono (by have:=hE.out.size;simpa using this));clear f0 f1 f2 f3 f4 f5 aC;go_wp2;go_roundw
      case rel=>exact⟨k2+1,by omega,by go_num,by rw[HS.out],DV.out⟩
      case measure=>simp[intOf];omega
    ·have hkl:k2=L.length:=by omega
     subst hkl;have GV:=mU L L.length;have ht:aM L=L.drop (cD L L.length)++L.take (cD L L.length):=rfl;have hm0:0<L.length→cD L L.length<L.length:=fun h=>pN L L.length h
     obtain⟨m,gm⟩:=aB (cD L L.length);rw[gm] at GV ht hm0 ⊢;have HT:=qh ht;obtain⟨X1,pO,jq,hfx⟩:=QX A1 L.length c1 m GV HR.out.le;have HFX:=qh (hfx (fun b=>∃cs,Whole W1 b 32 cs) HFR.out);obtain⟨X2,X6,uU⟩:=Rz A1 L.length c1 m GV HR.out.le;have UJ:=qh (fun W B=>jq W B L);have UB:=qh (fun W B=>uU W B L);clear ht gm jq uU bC hfx;go_upto_region 14 with fail
     have hE:Hid (σ W1.heap.size W1 wr.drew):=nf.out.drew;have RR:=qh (HR.out.up hE.out hE.out.size);refine ay (aO) (by kernel_rfl) ?_;refine aa 0 ?_;refine aa 1 ?_;refine aa 2 ?_;refine aa 3 ?_;refine aa 4 ?_;refine aa 5 ?_;refine aa 6 ?_;refine aa 7 ?_;refine aa 8 ?_;refine aa 9 ?_;refine yq 10 ?_;intro w' aC
     have HG:∃A3 c3 bW,(Builtin.append_ #[57,57] 57 #[γ X1 (L.length - m) (L.length - m),γ X2 m c1]).run η w'=.ok (γ A3 L.length c3) bW∧ko bW (A3,L.length,c3,L.drop m++L.take m)∧σ w'.heap.size w' bW:=by
      have r1:=UJ.out w' _ (RR.out.up aC aC.size);have r2:=UB.out w' _ (RR.out.up aC aC.size)
      by_cases h0:m=0
      ·subst h0
       refine⟨X1,L.length,w',?_,?_,Θ _ _⟩
       ·have:=oo (P:=η) w' 57 57 32 i0 Tryz.underlying57 hi X1 X2 (L.length - 0) (L.length - 0) c1 (Δ _)
        simpa using this
       ·refine⟨by show L.length≤Jap;unfold Jap;omega,by simpa using r1,fun a ha=>?_⟩
        obtain⟨cs,hc⟩:=HFX.out a ha;exact⟨cs,(hc.bl hE.out).bl aC⟩
      ·obtain⟨cap,bW,hr,gh,hb⟩:=uO (P:=η) w' 57 57 32 i0 _ 3 24 Tryz.underlying57 hi qJ ly kK rfl (by decide) _ _ X1 X2 (L.length - m) m c1 _ _ r1 r2 (by omega) (by have:=hm0 (by omega);omega) (by unfold Jap;omega) (by omega);obtain⟨A3,c3,hv,mg⟩:=bg.of_own gh;rw[hv] at gh;rw[show L.length - m+m=L.length by omega] at hr hv gh;rw[hv] at hr;rw[←fM] at gh;exact⟨A3,c3,bW,hr,ko.of_own gh,hb⟩
     obtain⟨A3,c3,w3,bV,mg,bA⟩:=HG
     have HG:Hid (∃A c,Ο A3 L.length c3=γ A L.length c∧ko w3 (A,L.length,c,L.drop m++L.take m)∧σ w.heap.size w w3):=by
      have e1:=HB.out;have e2:=hE.out;have h1:σ w.heap.size w w':=(e1.trans (e2.mono e1.size)).trans (aC.mono (Λ e1.size e2.size));exact⟨A3,c3,rfl,mg,h1.trans (bA.mono h1.size)⟩
     refine⟨_,w3,dt rfl rfl rfl bV,Kept.of_below bA,?_⟩
     clear bV mg bA aC;simp only[ξ,aw,ar,aq];refine aa 11 ?_;refine aF (by kernel_rfl) ?_ _;intro w' aC;go_wp2;go_ret;have hG:=HG.out;obtain⟨A3,c3,hv,mg,bA⟩:=hG;have hlen:(aM L).length=L.length:=by rw[HT.out];simp;omega
     refine⟨A3,c3,?_,?_,?_⟩
     ·rw[GL.out,hlen];exact congrArg _ hv
     ·rw[GL.out,hlen,HT.out];exact mg.bl aC
     ·exact bA.trans (aC.mono bA.size)
theorem oP (A:Option Κ) (n c:Nat) (L:List D) (w:ο) (g:Nat) (t:Υ) (hg:Whole w g t [γ A n c]) (hr:bg w w.heap.size 3 A n c (aA L)) (hn:n≤1000000):
 Ζ η 153 #[γ (ζ ⟨g,0,ε⟩) 1 1] w (jx w (aM L)):=by
 have h:=oO (ζ ⟨g,0,ε⟩) 1 1 [L] w (VT hg hr) (by omega) (by have:=hr.dlen;simp;omega);simpa using h
theorem ss (A A2:Option Κ) (n c n2 c2 g g1:Nat) (t t1:Υ) (L L2:List D) (d:D) (w:ο) (hg:Whole w g t [γ A n c,γ (ζ ⟨g1,0,ε⟩) 1 1,γ A2 n2 c2]) (h1:Whole w g1 t1 (aA [d])) (hr:bg w w.heap.size 3 A n c (aA L)) (oJ:bg w w.heap.size 3 A2 n2 c2 (aA L2)) (hn:n+n2≤999999):
 Ζ η 153 #[γ (ζ ⟨g,0,ε⟩) 3 3] w (jx w (aM (L++d::L2))):=by
 have h:=oO (ζ ⟨g,0,ε⟩) 3 3 [L,[d],L2] w (Wg hg hr (bg.whole3 h1) oJ) (by omega) (by have:=hr.dlen;have:=oJ.dlen;simp;omega);simpa using h
theorem Bu (A A2:Option Κ) (n c n2 c2 g:Nat) (t:Υ) (L L2:List D) (w:ο) (hg:Whole w g t [γ A n c,γ A2 n2 c2]) (hr:bg w w.heap.size 3 A n c (aA L)) (oJ:bg w w.heap.size 3 A2 n2 c2 (aA L2)) (hn:n+n2≤999999):
 Ζ η 153 #[γ (ζ ⟨g,0,ε⟩) 2 2] w (jx w (aM (L++L2))):=by
 have h:=oO (ζ ⟨g,0,ε⟩) 2 2 [L,L2] w (T7 hg hr oJ) (by omega) (by have:=hr.dlen;have:=oJ.dlen;simp;omega);simpa using h
theorem Ap (A:Option Κ) (n c:Nat) (L:List D) (a d:D) (w:ο) (h:bg w w.heap.size 3 A n c (aA L)) (hn:n≤999000):
 Ζ η 148 #[γ A n c,φ #[J a.1,J a.2.1,J a.2.2],φ #[J d.1,J d.2.1,J d.2.2]] w (jx w (aM (ja L a d))):=by
 have HI:=qh (fun x W h=>il A n c L x W h (by omega));have HT:=qh (fun W g t hg hr=>oP A n c L W g t hg hr (by omega));have H:=qh h;have hl:=h.dlen;obtain⟨W0,bO⟩:=aB ((w.alloc (δ #[J a.1,J a.2.1,J a.2.2] 32)).alloc (δ #[J d.1,J d.2.1,J d.2.2] 32));have fp:σ w.heap.size w W0:=by rw[←bO];exact cr _ _ _
 have O3:Whole W0 w.heap.size 32 (aA [a]):=by rw[←bO];exact(Whole.new_ w _ (aA [a])).alloc _
 have M4:Whole W0 (w.heap.size+1) 32 (aA [d]):=by
  rw[←bO]
  have:=Whole.new_ (w.alloc (δ #[J a.1,J a.2.1,J a.2.2] 32)) 32 (aA [d])
  simpa [aA] using this
 have B0:=qh fp;have AA:=qh O3;have DD:=qh M4;have a0:=O3.cell (i:=0) rfl;have a1:=O3.cell (i:=1) rfl;have a2:=O3.cell (i:=2) rfl;have d0:=M4.cell (i:=0) rfl;have d1:=M4.cell (i:=1) rfl;have d2:=M4.cell (i:=2) rfl;have GW:=qh bO;clear h bO fp O3 M4
 by_cases h0:n=0
 ·subst h0;have hL:L=[]:=JaB hl;subst hL;have HT1:=qh (fun (W:ο) (g:Nat) (t:Υ) (g1:Nat) (t1:Υ) (hg:Whole W g t [γ (ζ ⟨g1,0,ε⟩) 1 1]) (h1:Whole W g1 t1 (aA [d]))=>oP (ζ ⟨g1,0,ε⟩) 1 1 [d] W g t hg (bg.whole3 h1) (by omega));clear hl;go_enter Tryz.func148,Tryz.ntmps148
  go_wp2_with (first
   |(go_at_call 153;refine(HT1.out _ _ 57 _ 32 (by exact Whole.new2 (by simp)) (by exact(Whole.new2 (cs:=aA [d]) (by simp)).alloc _)).mono ?_;rintro e w2 ⟨A2,c2,rfl,oJ,aP⟩))
  go_ret;have e1:ja [] a d=[d]:=by simp[ja]
  rw[e1];exact⟨A2,c2,rfl,oJ,(((cr _ _ _).alloc (by simp<;>omega) _).alloc (by simp<;>omega) _).trans (aP.mono (by simp;omega))⟩
 ·by_cases hd:d∈L
  ·have e1:ja L a d=L:=by rw[ja,if_pos hd]
   obtain⟨i1,i2⟩:=j3 hd;have PB:=qh (HI.out d);rw[i1] at PB;obtain⟨k,gk⟩:=aB (L.idxOf d);rw[gk] at PB;have E1:=qh e1;have FZ:((n:Int)==0)=ρ:=by simpa using h0
   clear hl e1 i1 i2 gk hd h0;go_enter Tryz.func148,Tryz.ntmps148;go_upto_region 1 with fail
   rw[GW.out]
   go_wp2_with (first
    |(go_at_call 144;refine(PB.out _ (by exact H.out.up B0.out B0.out.size)).mono ?_;rintro e w2 ⟨rfl,aP⟩;have B2:=qh (B0.out.trans (aP.mono B0.out.size));clear aP)
    |(go_at_call 153;refine(HT.out _ _ 57 (by exact Whole.new_ _ _ _) (by exact(H.out.up B2.out B2.out.size).up (az _ _) (by simp))).mono ?_;rintro e w3 ⟨A2,c2,rfl,mg,bA⟩))
   go_ret;rw[E1.out];exact⟨A2,c2,rfl,mg,(B2.out.alloc B2.out.size _).trans (bA.mono (by have:=B2.out.size;simp;omega))⟩
  ·have e1:ja L a d=L.take ((max (fC L a) 0).toNat+1)++d::L.drop ((max (fC L a) 0).toNat+1):=by rw[ja,if_neg hd]
   have PB:=qh (HI.out d);rw[lK hd] at PB;have oF:=qh (HI.out a);obtain⟨i1,i2,i3,i4⟩:=PO L a;obtain⟨k,gk⟩:=aB (fC L a);rw[gk] at oF e1 i1 i2 i4;have vj:∃j:Nat,max k 0=(j:Int)∧j+1≤n:=⟨(max k 0).toNat,by omega,by omega⟩
   obtain⟨j,hj,KJ⟩:=vj;rw[hj,Jbn] at e1;obtain⟨j1,WJ⟩:=aB (j+1);rw[WJ] at e1 KJ;have hj3:(j:Int)+1=(j1:Int):=by omega
   have E1:=qh e1;have FZ:((n:Int)==0)=ρ:=by simpa using h0
   obtain⟨X1,pO,jq⟩:=Rz A n c j1 KJ H.out.le;obtain⟨X2,X6,uU⟩:=VL A n c j1 KJ H.out.le;have UJ:=qh (fun W B=>jq W B L);have UB:=qh (fun W B=>uU W B L);have HJ:=qh hj;have Rp:=qh hj3;have GJ1:=qh WJ;have HKJ:Hid (0≤k→k=j):=fun h=>by have:=HJ.out;omega
   have yP:Hid (¬0≤k→(0:Int)=j):=fun h=>by have:=HJ.out;omega
   have tok:True:=trivial;have hkb:k≤1000000:=by omega
   clear hl e1 i2 i3 i4 gk hd hj hj3 WJ jq uU h0;go_enter Tryz.func148,Tryz.ntmps148;go_upto_region 1 with fail
   rw[GW.out]
   go_upto_region 5 with (first
    |(go_at_call 144;have _t:=tok;refine(PB.out _ (by exact H.out.up B0.out B0.out.size)).mono ?_;rintro e w2 ⟨rfl,aP⟩;have B2:=qh (B0.out.trans (aP.mono B0.out.size));have A2:=qh (AA.out.below aP);have D2:=qh (DD.out.below aP);have q0:=A2.out.cell (i:=0) rfl;have q1:=A2.out.cell (i:=1) rfl;have q2:=A2.out.cell (i:=2) rfl;clear aP tok))
   go_cut [7] (fun v x=>v=J (j1:Int)∧σ w.heap.size w x∧Whole x (w.heap.size+1) 32 (aA [d]))
   case first=>
    by_cases BD:0≤k
    ·have e:=HKJ.out BD;have vW:k+1=j1:=by have:=Rp.out;omega
     have oM:=qh vW;clear vW e
     go_wp2_with (first
      |(go_at_call 144;refine(oF.out _ (by exact H.out.up B2.out B2.out.size)).mono ?_;rintro e w3 ⟨rfl,bA⟩;have B3:=qh (B2.out.trans (bA.mono B2.out.size));have D3:=qh (D2.out.below bA);clear bA))
     go_meet;exact⟨by have h9:=oM.out;first|rw[show max k 0+1=(j1:Int) by omega]|rw[h9],B3.out,D3.out⟩
    ·have e:=yP.out (by omega);have vW:(1:Int)=j1:=by have:=Rp.out;omega
     have oM:=qh vW;clear vW e
     go_wp2_with (first
      |(go_at_call 144;refine(oF.out _ (by exact H.out.up B2.out B2.out.size)).mono ?_;rintro e w3 ⟨rfl,bA⟩;have B3:=qh (B2.out.trans (bA.mono B2.out.size));have D3:=qh (D2.out.below bA);clear bA))
     go_meet;exact⟨by have h9:=oM.out;first|rw[show max k 0+1=(j1:Int) by omega]|rw[h9],B3.out,D3.out⟩
   case rest=>
   obtain⟨rfl,Tv,DY⟩:=hcut;have BC:=qh Tv;have DC:=qh DY;clear Tv DY a0 a1 a2 d0 d1 d2 q0 q1 q2;go_upto_region 6 with fail
   have f0:∀w',Kept aO wc.drew w'→w'.cell? ⟨w.heap.size+1,0,ε⟩=ζ (J d.1):=fun w' h=>h.nil_cell (DC.out.drew.cell rfl)
   have f1:∀w',Kept aO wc.drew w'→w'.cell? ⟨w.heap.size+1,1,ε⟩=ζ (J d.2.1):=fun w' h=>h.nil_cell (DC.out.drew.cell rfl)
   have f2:∀w',Kept aO wc.drew w'→w'.cell? ⟨w.heap.size+1,2,ε⟩=ζ (J d.2.2):=fun w' h=>h.nil_cell (DC.out.drew.cell rfl)
   have hE:Hid (σ w.heap.size w wc.drew):=BC.out.drew;refine ay (aO) (by kernel_rfl) ?_;refine aa 0 ?_;refine aa 1 ?_;refine aa 2 ?_;refine aa 3 ?_;refine aa 5 ?_;refine aa 6 ?_;refine aa 7 ?_;refine yq 4 ?_;intro w' aC;apply JaG;apply JaG;apply Jax
   ·go_simp;exact⟨rfl,rfl⟩
   apply Jax
   ·exact Kept.of_below (az _ _)
   obtain⟨g1,Ka⟩:=aB w'.heap.size;obtain⟨W1,aV⟩:=aB (w'.alloc (δ #[J d.1,J d.2.1,J d.2.2] 32));have hD1:Hid (Whole W1 g1 32 (aA [d])):=(by rw[←aV,←Ka];exact Whole.new_ w' _ (aA [d]));have Wo:Hid (σ w.heap.size w W1):=(by rw[←aV];exact(hE.out.trans (aC.mono hE.out.size)).alloc (Λ hE.out.size aC.size) _);rw[aV,Ka];clear aV Ka aC;simp only[ξ,aw,ar,aq];refine yq 8 ?_;intro w' aC;apply JaG;apply JaG;apply Jax
   ·go_simp;exact⟨rfl,rfl⟩
   apply Jax
   ·exact Kept.of_below (az _ _)
   obtain⟨g2,mA⟩:=aB w'.heap.size;obtain⟨W2,eU⟩:=aB (w'.alloc (δ #[γ X1 j1 c,γ (ζ ⟨g1,0,ε⟩) 1 1,γ X2 (n - j1) (c - j1)] 57));have hD2:Hid (Whole W2 g1 32 (aA [d])):=(by rw[←eU];exact(hD1.out.below aC).alloc _);have Rt:Hid (Whole W2 g2 57 [γ X1 j1 c,γ (ζ ⟨g1,0,ε⟩) 1 1,γ X2 (n - j1) (c - j1)]):=(by rw[←eU,←mA];exact Whole.new_ w' _ [γ X1 j1 c,γ (ζ ⟨g1,0,ε⟩) 1 1,γ X2 (n - j1) (c - j1)]);have DV:Hid (σ w.heap.size w W2):=(by rw[←eU];exact(Wo.out.trans (aC.mono Wo.out.size)).alloc (Λ Wo.out.size aC.size) _);rw[eU,mA];clear eU mA aC;simp only[ξ,aw,ar,aq];refine mw 9 ?_;intro w' aC;have Du:=DV.out.trans (aC.mono DV.out.size);have r:=H.out.up Du Du.size
   refine(ss X1 X2 j1 c (n - j1) (c - j1) g2 g1 _ _ (L.take j1) (L.drop j1) d w' (Rt.out.below aC) (hD2.out.below aC) (UJ.out _ _ r) (UB.out _ _ r) (by omega)).mono ?_
   rintro e w5 ⟨A3,c3,rfl,mg,bA⟩;have HG:Hid (∃Sg Sq,Ending.returned (Ο A3 (aM (L.take j1++d::L.drop j1)).length c3)=.returned (.slice Sg (aM (L.take j1++d::L.drop j1)).length Sq)∧ko w5 (Sg,(aM (L.take j1++d::L.drop j1)).length,Sq,(aM (L.take j1++d::L.drop j1)))∧σ w.heap.size w w5):=⟨A3,c3,rfl,mg,Du.trans (bA.mono Du.size)⟩
   refine⟨_,rfl,Kept.of_below bA,?_⟩
   clear mg bA aC Du r;simp only[ξ,aw,ar,aq];refine aa 10 ?_;refine aF (by kernel_rfl) ?_ _;intro w' aC;go_wp2;go_ret;obtain⟨A3,c3,hv,mg,bA⟩:=HG.out;rw[E1.out];exact⟨A3,c3,hv,mg.bl aC,bA.trans (aC.mono bA.size)⟩
theorem Bv (A:Option Κ) (n c:Nat) (L:List D) (d:D) (w:ο) (h:bg w w.heap.size 3 A n c (aA L)) (hn:n≤999000):
 Ζ η 123 #[γ A n c,φ #[J d.1,J d.2.1,J d.2.2]] w (jx w (aM (jy L d))):=by
 have HI:=qh (fun W h=>il A n c L d W h (by omega));have HT:=qh (fun W g t hg hr=>oP A n c L W g t hg hr (by omega));have H:=qh h;have hl:=h.dlen;have fp:σ w.heap.size w (w.alloc (δ #[J d.1,J d.2.1,J d.2.2] 32)):=az _ _;have B0:=qh fp;clear h fp
 by_cases hd:d∈L
 ·obtain⟨i1,i2⟩:=j3 hd;rw[i1] at HI;have e1:jy L d=L.take (L.idxOf d)++L.drop (L.idxOf d+1):=by rw[jy,if_pos hd]
  obtain⟨k,gk⟩:=aB (L.idxOf d);rw[gk] at HI e1 i2;have hk:k+1≤n:=by omega
  have E1:=qh e1;obtain⟨k1,Pt⟩:=aB (k+1);have ia:Jaw.wrap ((k:Int)+1)=(k1:Int):=(Jbb _ (by omega)).trans (by omega);rw[Pt] at hk E1;obtain⟨X1,pO,jq⟩:=Rz A n c k (by omega) H.out.le;obtain⟨X2,X6,uU⟩:=VL A n c k1 hk H.out.le;have UJ:=qh (fun W B=>jq W B L);have UB:=qh (fun W B=>uU W B L);have vj:k≤n:=by omega
  have GK1:=qh Pt;clear hl e1 i1 i2 gk hd Pt jq uU;go_enter Tryz.func123,Tryz.ntmps123
  go_upto_region 4 with (first
   |(go_at_call 144;refine(HI.out _ (by exact H.out.up B0.out B0.out.size)).mono ?_;rintro e w2 ⟨rfl,aP⟩;have B2:=qh (bc aP);clear aP))
  have hE:Hid (σ w.heap.size w w2.drew):=B2.out.drew;refine ay (aO) (by kernel_rfl) ?_;refine aa 0 ?_;refine aa 1 ?_;refine aa 2 ?_;refine aa 3 ?_;refine aa 4 ?_;refine aa 5 ?_;refine aa 6 ?_;refine yq 7 ?_;intro w' aC;apply JaG;apply JaG;apply Jax
  ·go_simp;exact⟨rfl,rfl⟩
  apply Jax
  ·exact Kept.of_below (az _ _)
  obtain⟨g2,mA⟩:=aB w'.heap.size;obtain⟨W2,eU⟩:=aB (w'.alloc (δ #[γ X1 k c,γ X2 (n - k1) (c - k1)] 57));have Rt:Hid (Whole W2 g2 57 [γ X1 k c,γ X2 (n - k1) (c - k1)]):=(by rw[←eU,←mA];exact Whole.new_ w' _ [γ X1 k c,γ X2 (n - k1) (c - k1)]);have DV:Hid (σ w.heap.size w W2):=(by rw[←eU];exact(hE.out.trans (aC.mono hE.out.size)).alloc (Λ hE.out.size aC.size) _);rw[eU,mA];clear eU mA aC;simp only[ξ,aw,ar,aq];refine mw 8 ?_;intro w' aC;have Du:=DV.out.trans (aC.mono DV.out.size);have r:=H.out.up Du Du.size
  refine(Bu X1 X2 k c (n - k1) (c - k1) g2 _ (L.take k) (L.drop k1) w' (Rt.out.below aC) (UJ.out _ _ r) (UB.out _ _ r) (by have:=GK1.out;omega)).mono ?_
  rintro e w5 ⟨A3,c3,rfl,mg,bA⟩;have HG:Hid (∃Sg Sq,Ending.returned (Ο A3 (aM (L.take k++L.drop k1)).length c3)=.returned (.slice Sg (aM (L.take k++L.drop k1)).length Sq)∧ko w5 (Sg,(aM (L.take k++L.drop k1)).length,Sq,(aM (L.take k++L.drop k1)))∧σ w.heap.size w w5):=⟨A3,c3,rfl,mg,Du.trans (bA.mono Du.size)⟩
  refine⟨_,rfl,Kept.of_below bA,?_⟩
  clear mg bA aC Du r;simp only[ξ,aw,ar,aq];refine aa 9 ?_;refine aF (by kernel_rfl) ?_ _;intro w' aC;go_wp2;go_ret;obtain⟨A3,c3,hv,mg,bA⟩:=HG.out;rw[E1.out];exact⟨A3,c3,hv,mg.bl aC,bA.trans (aC.mono bA.size)⟩
 ·have e1:jy L d=L:=by rw[jy,if_neg hd]
  rw[lK hd] at HI;have E1:=qh e1;clear hl e1 hd;go_enter Tryz.func123,Tryz.ntmps123
  go_wp2_with (first
   |(go_at_call 144;refine(HI.out _ (by exact H.out.up B0.out B0.out.size)).mono ?_;rintro e w2 ⟨rfl,aP⟩;have B2:=qh (bc aP);clear aP)
   |(go_at_call 153;refine(HT.out _ _ 57 (by exact Whole.new_ _ _ _) (by exact(H.out.up B2.out B2.out.size).up (az _ _) (by simp))).mono ?_;rintro e w3 ⟨A2,c2,rfl,mg,bA⟩))
  go_ret;rw[E1.out];exact⟨A2,c2,rfl,mg,(B2.out.alloc B2.out.size _).trans (bA.mono (by have:=B2.out.size;simp;omega))⟩
theorem xA (A:Option Κ) (n c:Nat) (L:List D) (a d:D) (w:ο) (h:bg w w.heap.size 3 A n c (aA L)) (hn:n≤999000):
 Ζ η 126 #[γ A n c,φ #[J a.1,J a.2.1,J a.2.2],φ #[J d.1,J d.2.1,J d.2.2]] w (jx w (aM (j4 L a d))):=by
 have HI:=qh (fun x W h=>il A n c L x W h (by omega));have HT:=qh (fun W g t hg hr=>oP A n c L W g t hg hr (by omega));have H:=qh h;have hl:=h.dlen;obtain⟨W0,bO⟩:=aB ((w.alloc (δ #[J a.1,J a.2.1,J a.2.2] 32)).alloc (δ #[J d.1,J d.2.1,J d.2.2] 32));have fp:σ w.heap.size w W0:=by rw[←bO];exact cr _ _ _
 have O3:Whole W0 w.heap.size 32 (aA [a]):=by rw[←bO];exact(Whole.new_ w _ (aA [a])).alloc _
 have M4:Whole W0 (w.heap.size+1) 32 (aA [d]):=by
  rw[←bO];exact Whole.new2 (cs:=aA [d]) (by simp)
 have B0:=qh fp;have DD:=qh M4;have a0:=O3.cell (i:=0) rfl;have a1:=O3.cell (i:=1) rfl;have a2:=O3.cell (i:=2) rfl;have d0:=M4.cell (i:=0) rfl;have d1:=M4.cell (i:=1) rfl;have d2:=M4.cell (i:=2) rfl;have GW:=qh bO;have Xs:=qh (HI.out a);have Zn:=qh (HI.out d);have tok:True:=trivial;clear h bO fp O3 M4 HI
 by_cases ha:a∈L
 ·obtain⟨i1,i2⟩:=j3 ha;rw[i1] at Xs;obtain⟨k,gk⟩:=aB (L.idxOf a);rw[gk] at Xs i2;have hk:k+1≤n:=by omega
  by_cases hd:d∈L
  ·have e1:j4 L a d=L:=by rw[j4,if_neg (fun h=>h.2 hd)]
   obtain⟨j1,j2⟩:=j3 hd;rw[j1] at Zn;obtain⟨j,gj⟩:=aB (L.idxOf d);rw[gj] at Zn;have E1:=qh e1;clear hl e1 ha hd i1 j1 j2 gk gj;go_enter Tryz.func126,Tryz.ntmps126;go_upto_region 1 with fail
   rw[GW.out]
   go_wp2_with (first
    |(go_at_call 144;have _t:=tok;refine(Xs.out _ (by exact H.out.up B0.out B0.out.size)).mono ?_;rintro e w2 ⟨rfl,aP⟩;have B2:=qh (B0.out.trans (aP.mono B0.out.size));have D2:=qh (DD.out.below aP);have q0:=D2.out.cell (i:=0) rfl;have q1:=D2.out.cell (i:=1) rfl;have q2:=D2.out.cell (i:=2) rfl;clear aP tok)
    |(go_at_call 144;refine(Zn.out _ (by exact H.out.up B2.out B2.out.size)).mono ?_;rintro e w3 ⟨rfl,bA⟩;have B3:=qh (B2.out.trans (bA.mono B2.out.size));clear bA)
    |(go_at_call 153;refine(HT.out _ _ 57 (by exact Whole.new_ _ _ _) (by exact(H.out.up B3.out B3.out.size).up (az _ _) (by simp))).mono ?_;rintro e w4 ⟨A2,c2,rfl,mg,ns⟩))
   go_ret;rw[E1.out];exact⟨A2,c2,rfl,mg,(B3.out.alloc B3.out.size _).trans (ns.mono (by have:=B3.out.size;simp;omega))⟩
  ·have e1:j4 L a d=L.take k++d::L.drop (k+1):=by rw[j4,if_pos ⟨ha,hd⟩,gk]
   rw[lK hd] at Zn;have E1:=qh e1;obtain⟨k1,Pt⟩:=aB (k+1);have ia:Jaw.wrap ((k:Int)+1)=(k1:Int):=(Jbb _ (by omega)).trans (by omega);rw[Pt] at hk E1;obtain⟨X1,pO,jq⟩:=Rz A n c k (by omega) H.out.le;obtain⟨X2,X6,uU⟩:=VL A n c k1 hk H.out.le;have UJ:=qh (fun W B=>jq W B L);have UB:=qh (fun W B=>uU W B L);have vj:k≤n:=by omega
   have GK1:=qh Pt;clear hl e1 i1 i2 gk ha hd Pt jq uU;go_enter Tryz.func126,Tryz.ntmps126;go_upto_region 1 with fail
   rw[GW.out]
   go_upto_region 4 with (first
    |(go_at_call 144;have _t:=tok;refine(Xs.out _ (by exact H.out.up B0.out B0.out.size)).mono ?_;rintro e w2 ⟨rfl,aP⟩;have B2:=qh (B0.out.trans (aP.mono B0.out.size));have D2:=qh (DD.out.below aP);have q0:=D2.out.cell (i:=0) rfl;have q1:=D2.out.cell (i:=1) rfl;have q2:=D2.out.cell (i:=2) rfl;clear aP tok)
    |(go_at_call 144;refine(Zn.out _ (by exact H.out.up B2.out B2.out.size)).mono ?_;rintro e w3 ⟨rfl,bA⟩;have B3:=qh (B2.out.trans (bA.mono B2.out.size));have D3:=qh (D2.out.below bA);clear bA))
   have f0:∀w',Kept aO w3.drew w'→w'.cell? ⟨w.heap.size+1,0,ε⟩=ζ (J d.1):=fun w' h=>h.nil_cell (D3.out.drew.cell rfl)
   have f1:∀w',Kept aO w3.drew w'→w'.cell? ⟨w.heap.size+1,1,ε⟩=ζ (J d.2.1):=fun w' h=>h.nil_cell (D3.out.drew.cell rfl)
   have f2:∀w',Kept aO w3.drew w'→w'.cell? ⟨w.heap.size+1,2,ε⟩=ζ (J d.2.2):=fun w' h=>h.nil_cell (D3.out.drew.cell rfl)
   have hE:Hid (σ w.heap.size w w3.drew):=B3.out.drew;clear q0 q1 q2 d0 d1 d2 a0 a1 a2;refine ay (aO) (by kernel_rfl) ?_;refine aa 0 ?_;refine aa 1 ?_;refine aa 2 ?_;refine aa 3 ?_;refine aa 5 ?_;refine aa 6 ?_;refine aa 7 ?_;refine aa 8 ?_;refine yq 4 ?_;intro w' aC;apply JaG;apply JaG;apply Jax
   ·go_simp;exact⟨rfl,rfl⟩
   apply Jax
   ·exact Kept.of_below (az _ _)
   obtain⟨g1,Ka⟩:=aB w'.heap.size;obtain⟨W1,aV⟩:=aB (w'.alloc (δ #[J d.1,J d.2.1,J d.2.2] 32));have hD1:Hid (Whole W1 g1 32 (aA [d])):=(by rw[←aV,←Ka];exact Whole.new_ w' _ (aA [d]));have Wo:Hid (σ w.heap.size w W1):=(by rw[←aV];exact(hE.out.trans (aC.mono hE.out.size)).alloc (Λ hE.out.size aC.size) _);rw[aV,Ka];clear aV Ka aC;simp only[ξ,aw,ar,aq];refine yq 9 ?_;intro w' aC;apply JaG;apply JaG;apply Jax
   ·go_simp;exact⟨rfl,rfl⟩
   apply Jax
   ·exact Kept.of_below (az _ _)
   obtain⟨g2,mA⟩:=aB w'.heap.size;obtain⟨W2,eU⟩:=aB (w'.alloc (δ #[γ X1 k c,γ (ζ ⟨g1,0,ε⟩) 1 1,γ X2 (n - k1) (c - k1)] 57));have hD2:Hid (Whole W2 g1 32 (aA [d])):=(by rw[←eU];exact(hD1.out.below aC).alloc _);have Rt:Hid (Whole W2 g2 57 [γ X1 k c,γ (ζ ⟨g1,0,ε⟩) 1 1,γ X2 (n - k1) (c - k1)]):=(by rw[←eU,←mA];exact Whole.new_ w' _ [γ X1 k c,γ (ζ ⟨g1,0,ε⟩) 1 1,γ X2 (n - k1) (c - k1)]);have DV:Hid (σ w.heap.size w W2):=(by rw[←eU];exact(Wo.out.trans (aC.mono Wo.out.size)).alloc (Λ Wo.out.size aC.size) _);rw[eU,mA];clear eU mA aC;simp only[ξ,aw,ar,aq];refine mw 10 ?_;intro w' aC;have Du:=DV.out.trans (aC.mono DV.out.size);have r:=H.out.up Du Du.size
   refine(ss X1 X2 k c (n - k1) (c - k1) g2 g1 _ _ (L.take k) (L.drop k1) d w' (Rt.out.below aC) (hD2.out.below aC) (UJ.out _ _ r) (UB.out _ _ r) (by have:=GK1.out;omega)).mono ?_
   rintro e w5 ⟨A3,c3,rfl,mg,bA⟩;have HG:Hid (∃Sg Sq,Ending.returned (Ο A3 (aM (L.take k++d::L.drop k1)).length c3)=.returned (.slice Sg (aM (L.take k++d::L.drop k1)).length Sq)∧ko w5 (Sg,(aM (L.take k++d::L.drop k1)).length,Sq,(aM (L.take k++d::L.drop k1)))∧σ w.heap.size w w5):=⟨A3,c3,rfl,mg,Du.trans (bA.mono Du.size)⟩
   refine⟨_,rfl,Kept.of_below bA,?_⟩
   clear mg bA aC Du r;simp only[ξ,aw,ar,aq];refine aa 11 ?_;refine aF (by kernel_rfl) ?_ _;intro w' aC;go_wp2;go_ret;obtain⟨A3,c3,hv,mg,bA⟩:=HG.out;rw[E1.out];exact⟨A3,c3,hv,mg.bl aC,bA.trans (aC.mono bA.size)⟩
 ·have e1:j4 L a d=L:=by rw[j4,if_neg (fun h=>ha h.1)]
  rw[lK ha] at Xs;have E1:=qh e1;clear hl e1 ha;go_enter Tryz.func126,Tryz.ntmps126;go_upto_region 1 with fail
  rw[GW.out]
  go_wp2_with (first
   |(go_at_call 144;have _t:=tok;refine(Xs.out _ (by exact H.out.up B0.out B0.out.size)).mono ?_;rintro e w2 ⟨rfl,aP⟩;have B2:=qh (B0.out.trans (aP.mono B0.out.size));clear aP tok)
   |(go_at_call 153;refine(HT.out _ _ 57 (by exact Whole.new_ _ _ _) (by exact(H.out.up B2.out B2.out.size).up (az _ _) (by simp))).mono ?_;rintro e w4 ⟨A2,c2,rfl,mg,ns⟩))
  go_ret;rw[E1.out];exact⟨A2,c2,rfl,mg,(B2.out.alloc B2.out.size _).trans (ns.mono (by have:=B2.out.size;simp;omega))⟩
theorem sz (n:Int):Pure 38 #[J n] (Β (eR n)):=fun w=>by
 unfold eR
 by_cases h1:-1099511627776≤n
 ·by_cases h2:n≤1099511627776
  ·rw[decide_eq_true ⟨h1,h2⟩];go_enter Tryz.func38,Tryz.ntmps38;go_wp2;go_ret;exact⟨rfl,Θ _ _⟩
  ·rw[decide_eq_false (fun h=>h2 h.2)];go_enter Tryz.func38,Tryz.ntmps38;go_wp2;go_ret;exact⟨rfl,Θ _ _⟩
 ·rw[decide_eq_false (fun h=>h1 h.1)];go_enter Tryz.func38,Tryz.ntmps38;go_wp2;go_ret;exact⟨rfl,Θ _ _⟩
theorem Vr (A:Option Κ) (n c:Nat) (Vs:List VC) (B:Option Κ) (m k:Nat) (Es:List EC) (x1 x2:Int) (w:ο) (h:bg w w.heap.size 5 A n c (ah vC Vs)) (hn:n≤140737488355328):
 Ζ η 27 #[φ #[γ A n c,γ B m k],φ #[J x1,J x2]] w fun e w'=>e=.returned (Ξ #[φ (vC (eP Vs (x1,x2)).1).toArray,Β (eP Vs (x1,x2)).2])∧σ w.heap.size w w':=by
 have H:=qh h;have Hl:=qh (h.rlen aS (by decide));obtain⟨⟨r,ok⟩,gr⟩:∃z,eP Vs (x1,x2)=z:=⟨_,rfl⟩
 rw[gr];have HG:=qh gr;clear h gr;go_enter Tryz.func27,Tryz.ntmps27;go_wp2;obtain⟨W0,b0,b1,b2,bO,bp,dE,jc,aQ,aL,aZ,bw,mQ,lZ,oa,uD,iP,X0,eI,uW,RA,tU⟩:=Bs w 25 [γ A n c,γ B m k] 30 [J x1,J x2] 59 [J 0,J 0,γ ε 0 0,μ {data:=#[]},J 0];rw[bO,jc,dE,bp];clear bO bp dE jc;go_loopw [6] (fun si wr=>∃j:Nat,j≤n∧si=J j∧Hid (σ w.heap.size w wr)∧Hid (Whole wr b0 25 [γ A n c,γ B m k])∧Hid (Whole wr b1 30 [J x1,J x2])∧Hid (Whole wr b2 59 [J 0,J 0,γ ε 0 0,μ {data:=#[]},J 0])∧Hid (eP (Vs.drop j) (x1,x2)=(r,ok))) (fun si _=>n - (intOf si).toNat)
 case atStart=>exact⟨0,by omega,rfl,bw,aQ,aL,aZ,HG⟩
 case round=>
  clear bw aQ aL aZ HG;obtain⟨j,hj,rfl,HB,aQ,aL,aZ,HG⟩:=hrel;obtain⟨wo,cS⟩:=aB wr;rw[cS] at HB aQ aL aZ ⊢;clear cS
  by_cases nT:j<n
  ·obtain⟨x,hx⟩:∃x,Vs[j]? =ζ x:=⟨_,θ (by have:=Hl.out;omega)⟩
   have kd:Vs.drop j=x::Vs.drop (j+1):=by
    rw[Χ (ν.1 hx).1,(ν.1 hx).2]
   have iZ:=HG.out;rw[kd] at iZ;have dQ:=qh iZ;obtain⟨bb,off,rfl,aY,a8⟩:=H.out.place aS (by decide) (by omega);have XT:Hid (bb<wo.heap.size):=qh (JaK aY HB.out.size);have bC:=HB.out;have q0:=a8 j _ hx 0 _ rfl;have q1:=a8 j _ hx 1 _ rfl;have q2:=a8 j _ hx 2 _ rfl;have q3:=a8 j _ hx 3 _ rfl;have q4:=a8 j _ hx 4 _ rfl;simp only[Ν,Jac] at q0 q1 q2 q3 q4;have l0:=(bC.cell (p:=⟨bb,off+j*5,ε⟩) aY).trans q0;have l1:=(bC.cell (p:=⟨bb,off+j*5+1,ε⟩) aY).trans q1;have l2:=(bC.cell (p:=⟨bb,off+j*5+2,ε⟩) aY).trans q2;have l3:=(bC.cell (p:=⟨bb,off+j*5+3,ε⟩) aY).trans q3;have l4:=(bC.cell (p:=⟨bb,off+j*5+4,ε⟩) aY).trans q4;clear bC q0 q1 q2 q3 q4;obtain⟨⟨i1,i2⟩,⟨rA,rn,rc,rL⟩,lb,at_⟩:=x;have HE:=qh (Jax l0 (Jax l1 (Jax l2 (Jax l3 l4))));have cb:=aQ.out.cell (i:=0) rfl;clear hx kd iZ a8 aY HG;have Ux:=l0;go_upto_region 4 with fail
   clear cb Ux;have NH:=cm (i:=0) aQ.out rfl;have WM:=cm (i:=0) aL.out rfl;have TT:=cm (i:=1) aL.out rfl;have lde:=cz l0;have ldf:=cz l1;clear l0 l1 l2 l3 l4;have heq:=fun W=>Gw i1 i2 x1 x2 W
   obtain⟨bq,yb⟩:=aB ((i1==x1 && i2==x2));rw[yb] at heq;have Lg:=qh yb;clear yb;refine ay (aO) (by kernel_rfl) ?_;refine aa 0 ?_;refine aa 1 ?_;refine aa 2 ?_;refine aa 3 ?_;refine aa 4 ?_;refine aa 5 ?_;refine aa 6 ?_;refine aa 7 ?_;refine aF (by kernel_rfl) ?_ _;intro W3 du;have j6:=qh (aQ.out.dr.bl du);have eD:=qh (aL.out.dr.bl du);have cE:=qh (aZ.out.dr.bl du);have sO:Hid (σ wo.heap.size wo W3):=qh (ag (aN (Θ _ _)) du);have bB:=qh (ag HB.out sO.out);clear du NH WM TT lde ldf HB aQ aL aZ heq;cases bq with
   |true=>
    have hq:=Lg.out;rw[Jar,beq_iff_eq,beq_iff_eq] at hq;have hg:=dQ.out;rw[eP,sE _ _ _ _ _ (by rw[hq.1,hq.2])] at hg;injection hg with xL iZ
    subst xL iZ;obtain⟨l0,l1,l2,l3,l4⟩:=HE.out;have KG:=sO.out;have AS:=XT.out;have cb:=j6.out.cell (i:=0) rfl;have f0:=cE.out.free 0;have k0:=cE.out.cell (i:=0) rfl;have y0:=(KG.cell (p:=⟨bb,off+j*5,ε⟩) AS).trans l0;have f1:=cE.out.free 1;have k1:=cE.out.cell (i:=1) rfl;have y1:=(KG.cell (p:=⟨bb,off+j*5+1,ε⟩) AS).trans l1;have f2:=cE.out.free 2;have k2:=cE.out.cell (i:=2) rfl;have y2:=(KG.cell (p:=⟨bb,off+j*5+2,ε⟩) AS).trans l2;have f3:=cE.out.free 3;have k3:=cE.out.cell (i:=3) rfl;have y3:=(KG.cell (p:=⟨bb,off+j*5+3,ε⟩) AS).trans l3;have f4:=cE.out.free 4;have k4:=cE.out.cell (i:=4) rfl;have y4:=(KG.cell (p:=⟨bb,off+j*5+4,ε⟩) AS).trans l4;have HY:=qh (((((cE.out.set_ 0 (J i1)).set_ 1 (J i2)).set_ 2 (γ rA rn rc)).set_ 3 (μ lb)).set_ 4 (J at_));have rQ:=qh (((((bB.out.setCell (p:=⟨b2,0,ε⟩) eI.out (J i1)).setCell (p:=⟨b2,1,ε⟩) eI.out (J i2)).setCell (p:=⟨b2,2,ε⟩) eI.out (γ rA rn rc)).setCell (p:=⟨b2,3,ε⟩) eI.out (μ lb)).setCell (p:=⟨b2,4,ε⟩) eI.out (J at_));clear cE dQ bB hq l0 l1 l2 l3 l4 HE KG sO;go_wp2;exact bS rfl b2 rfl rfl HY.out Tryz.underlying59 rfl (by kernel_rfl) rfl ⟨rfl,rQ.out⟩
   |false=>
    have hg:=dQ.out
    rw[eP,wP _ _ _ _ _ (fun e=>by
     have e1:i1=x1:=congrArg Prod.fst e;have e2:i2=x2:=congrArg Prod.snd e
     have:=Lg.out
     rw[e1,e2] at this;simp at this)] at hg
    have Bx:=qh hg;clear hg dQ HE sO;go_wp2;go_roundw
    case rel=>exact⟨j+1,by omega,by go_num,bB,j6,eD,cE,Bx⟩
    case measure=>simp[intOf];omega
  ·obtain rfl:n=j:=by omega
   have hg:=HG.out;rw[Jav (by have:=Hl.out;omega)] at hg;replace hg:(zV,ρ)=(r,ok):=hg;injection hg with xL iZ
   subst xL iZ;have cb:=aQ.out.cell (i:=0) rfl;have f0:=aZ.out.free 0;have k0:=aZ.out.cell (i:=0) rfl;have f1:=aZ.out.free 1;have k1:=aZ.out.cell (i:=1) rfl;have f2:=aZ.out.free 2;have k2:=aZ.out.cell (i:=2) rfl;have f3:=aZ.out.free 3;have k3:=aZ.out.cell (i:=3) rfl;have f4:=aZ.out.free 4;have k4:=aZ.out.cell (i:=4) rfl;have HY:=qh (((((aZ.out.set_ 0 (J 0)).set_ 1 (J 0)).set_ 2 (γ ε 0 0)).set_ 3 (μ {data:=#[]})).set_ 4 (J 0));have rQ:=qh (((((HB.out.setCell (p:=⟨b2,0,ε⟩) eI.out (J 0)).setCell (p:=⟨b2,1,ε⟩) eI.out (J 0)).setCell (p:=⟨b2,2,ε⟩) eI.out (γ ε 0 0)).setCell (p:=⟨b2,3,ε⟩) eI.out (μ {data:=#[]})).setCell (p:=⟨b2,4,ε⟩) eI.out (J 0));clear HG aZ;go_wp2;exact bS rfl b2 rfl rfl HY.out Tryz.underlying59 rfl (by kernel_rfl) rfl ⟨rfl,rQ.out⟩
theorem UZ (A:Option Κ) (n c:Nat) (Vs:List VC) (B:Option Κ) (m k:Nat) (Es:List EC) (x1 x2:Int) (w:ο) (h:bg w w.heap.size 4 B m k (ah eC Es)) (hn:m≤140737488355328):
 Ζ η 30 #[φ #[γ A n c,γ B m k],φ #[J x1,J x2]] w fun e w'=>e=.returned (Ξ #[φ (eC (wu Es (x1,x2)).1).toArray,Β (wu Es (x1,x2)).2])∧σ w.heap.size w w':=by
 have H:=qh h;have Hl:=qh (h.rlen bM (by decide));obtain⟨⟨r,ok⟩,gr⟩:∃z,wu Es (x1,x2)=z:=⟨_,rfl⟩
 rw[gr];have HG:=qh gr;clear h gr;go_enter Tryz.func30,Tryz.ntmps30;go_wp2;obtain⟨W0,b0,b1,b2,bO,bp,dE,jc,aQ,aL,aZ,bw,mQ,lZ,oa,uD,iP,X0,eI,uW,RA,tU⟩:=Bs w 25 [γ A n c,γ B m k] 30 [J x1,J x2] 67 [J 0,J 0,μ {data:=#[]},J 0];rw[bO,jc,dE,bp];clear bO bp dE jc;go_loopw [6] (fun si wr=>∃j:Nat,j≤m∧si=J j∧Hid (σ w.heap.size w wr)∧Hid (Whole wr b0 25 [γ A n c,γ B m k])∧Hid (Whole wr b1 30 [J x1,J x2])∧Hid (Whole wr b2 67 [J 0,J 0,μ {data:=#[]},J 0])∧Hid (wu (Es.drop j) (x1,x2)=(r,ok))) (fun si _=>m - (intOf si).toNat)
 case atStart=>exact⟨0,by omega,rfl,bw,aQ,aL,aZ,HG⟩
 case round=>
  clear bw aQ aL aZ HG;obtain⟨j,hj,rfl,HB,aQ,aL,aZ,HG⟩:=hrel;obtain⟨wo,cS⟩:=aB wr;rw[cS] at HB aQ aL aZ ⊢;clear cS
  by_cases nT:j<m
  ·obtain⟨x,hx⟩:∃x,Es[j]? =ζ x:=⟨_,θ (by have:=Hl.out;omega)⟩
   have kd:Es.drop j=x::Es.drop (j+1):=by
    rw[Χ (ν.1 hx).1,(ν.1 hx).2]
   have iZ:=HG.out;rw[kd] at iZ;have dQ:=qh iZ;obtain⟨bb,off,rfl,aY,a8⟩:=H.out.place bM (by decide) (by omega);have XT:Hid (bb<wo.heap.size):=qh (JaK aY HB.out.size);have bC:=HB.out;have q0:=a8 j _ hx 0 _ rfl;have q1:=a8 j _ hx 1 _ rfl;have q2:=a8 j _ hx 2 _ rfl;have q3:=a8 j _ hx 3 _ rfl;simp only[Ν,Jac] at q0 q1 q2 q3;have l0:=(bC.cell (p:=⟨bb,off+j*4,ε⟩) aY).trans q0;have l1:=(bC.cell (p:=⟨bb,off+j*4+1,ε⟩) aY).trans q1;have l2:=(bC.cell (p:=⟨bb,off+j*4+2,ε⟩) aY).trans q2;have l3:=(bC.cell (p:=⟨bb,off+j*4+3,ε⟩) aY).trans q3;clear bC q0 q1 q2 q3;obtain⟨⟨i1,i2⟩,lb,at_⟩:=x;have HE:=qh (Jax l0 (Jax l1 (Jax l2 l3)));have cb:=aQ.out.cell (i:=1) rfl;clear hx kd iZ a8 aY HG;have Ux:=l0;go_upto_region 4 with fail
   clear cb Ux;have NH:=cm (i:=1) aQ.out rfl;have WM:=cm (i:=0) aL.out rfl;have TT:=cm (i:=1) aL.out rfl;have lde:=cz l0;have ldf:=cz l1;clear l0 l1 l2 l3;have heq:=fun W=>Gw i1 i2 x1 x2 W
   obtain⟨bq,yb⟩:=aB ((i1==x1 && i2==x2));rw[yb] at heq;have Lg:=qh yb;clear yb;refine ay (aO) (by kernel_rfl) ?_;refine aa 0 ?_;refine aa 1 ?_;refine aa 2 ?_;refine aa 3 ?_;refine aa 4 ?_;refine aa 5 ?_;refine aa 6 ?_;refine aa 7 ?_;refine aF (by kernel_rfl) ?_ _;intro W3 du;have j6:=qh (aQ.out.dr.bl du);have eD:=qh (aL.out.dr.bl du);have cE:=qh (aZ.out.dr.bl du);have sO:Hid (σ wo.heap.size wo W3):=qh (ag (aN (Θ _ _)) du);have bB:=qh (ag HB.out sO.out);clear du NH WM TT lde ldf HB aQ aL aZ heq;cases bq with
   |true=>
    have hq:=Lg.out;rw[Jar,beq_iff_eq,beq_iff_eq] at hq;have hg:=dQ.out;rw[wu,sE _ _ _ _ _ (by rw[hq.1,hq.2])] at hg;injection hg with xL iZ
    subst xL iZ;obtain⟨l0,l1,l2,l3⟩:=HE.out;have KG:=sO.out;have AS:=XT.out;have cb:=j6.out.cell (i:=1) rfl;have f0:=cE.out.free 0;have k0:=cE.out.cell (i:=0) rfl;have y0:=(KG.cell (p:=⟨bb,off+j*4,ε⟩) AS).trans l0;have f1:=cE.out.free 1;have k1:=cE.out.cell (i:=1) rfl;have y1:=(KG.cell (p:=⟨bb,off+j*4+1,ε⟩) AS).trans l1;have f2:=cE.out.free 2;have k2:=cE.out.cell (i:=2) rfl;have y2:=(KG.cell (p:=⟨bb,off+j*4+2,ε⟩) AS).trans l2;have f3:=cE.out.free 3;have k3:=cE.out.cell (i:=3) rfl;have y3:=(KG.cell (p:=⟨bb,off+j*4+3,ε⟩) AS).trans l3;have HY:=qh ((((cE.out.set_ 0 (J i1)).set_ 1 (J i2)).set_ 2 (μ lb)).set_ 3 (J at_));have rQ:=qh ((((bB.out.setCell (p:=⟨b2,0,ε⟩) eI.out (J i1)).setCell (p:=⟨b2,1,ε⟩) eI.out (J i2)).setCell (p:=⟨b2,2,ε⟩) eI.out (μ lb)).setCell (p:=⟨b2,3,ε⟩) eI.out (J at_));clear cE dQ bB hq l0 l1 l2 l3 HE KG sO;go_wp2;exact bS rfl b2 rfl rfl HY.out Tryz.underlying67 rfl (by kernel_rfl) rfl ⟨rfl,rQ.out⟩
   |false=>
    have hg:=dQ.out
    rw[wu,wP _ _ _ _ _ (fun e=>by
     have e1:i1=x1:=congrArg Prod.fst e;have e2:i2=x2:=congrArg Prod.snd e
     have:=Lg.out
     rw[e1,e2] at this;simp at this)] at hg
    have Bx:=qh hg;clear hg dQ HE sO;go_wp2;go_roundw
    case rel=>exact⟨j+1,by omega,by go_num,bB,j6,eD,cE,Bx⟩
    case measure=>simp[intOf];omega
  ·obtain rfl:m=j:=by omega
   have hg:=HG.out;rw[Jav (by have:=Hl.out;omega)] at hg;replace hg:(zE,ρ)=(r,ok):=hg;injection hg with xL iZ
   subst xL iZ;have cb:=aQ.out.cell (i:=1) rfl;have f0:=aZ.out.free 0;have k0:=aZ.out.cell (i:=0) rfl;have f1:=aZ.out.free 1;have k1:=aZ.out.cell (i:=1) rfl;have f2:=aZ.out.free 2;have k2:=aZ.out.cell (i:=2) rfl;have f3:=aZ.out.free 3;have k3:=aZ.out.cell (i:=3) rfl;have HY:=qh ((((aZ.out.set_ 0 (J 0)).set_ 1 (J 0)).set_ 2 (μ {data:=#[]})).set_ 3 (J 0));have rQ:=qh ((((HB.out.setCell (p:=⟨b2,0,ε⟩) eI.out (J 0)).setCell (p:=⟨b2,1,ε⟩) eI.out (J 0)).setCell (p:=⟨b2,2,ε⟩) eI.out (μ {data:=#[]})).setCell (p:=⟨b2,3,ε⟩) eI.out (J 0));clear HG aZ;go_wp2;exact bS rfl b2 rfl rfl HY.out Tryz.underlying67 rfl (by kernel_rfl) rfl ⟨rfl,rQ.out⟩
theorem Bl (A:Option Κ) (n c:Nat) (Vs:List VC) (B:Option Κ) (m k:Nat) (Es:List EC) (x1 x2 x3:Int) (w:ο) (h:bz w A n c Vs B m k Es) (hn:n≤140737488355328) (hr:∀y∈Vs,y.2.1.2.1≤5864062014634):
 Ζ η 29 #[φ #[γ A n c,γ B m k],φ #[J x1,J x2,J x3]] w fun e w'=>
  e=.returned (Ξ #[φ #[J (lE Vs (x1,x2,x3)).1.1,J (lE Vs (x1,x2,x3)).1.2],Β (lE Vs (x1,x2,x3)).2])∧σ w.heap.size w w':=by
 have H:=qh h.v;have sw:=qh h.r;have AL:=qh hr;have Hl:=qh (h.v.rlen aS (by decide));obtain⟨⟨⟨r1,r2⟩,r3⟩,gr⟩:∃z,lE Vs (x1,x2,x3)=z:=⟨_,rfl⟩
 rw[gr];have HG:=qh gr;clear h hr gr;go_enter Tryz.func29,Tryz.ntmps29;go_wp2;obtain⟨W0,b0,b1,b2,bO,bp,dE,jc,aQ,aL,aZ,bw,mQ,lZ,oa,uD,iP,X0,eI,uW,RA,tU⟩:=Bs w 25 [γ A n c,γ B m k] 32 [J x1,J x2,J x3] 30 [J 0,J 0];rw[bO,jc,dE,bp];clear bO bp dE jc;go_loopw [6] (fun si wr=>∃j:Nat,j≤n∧si=J j∧Hid (σ w.heap.size w wr)∧Hid (Whole wr b0 25 [γ A n c,γ B m k])∧Hid (Whole wr b1 32 [J x1,J x2,J x3])∧Hid (Whole wr b2 30 [J 0,J 0])∧Hid (lE (Vs.drop j) (x1,x2,x3)=((r1,r2),r3))) (fun si _=>n - (intOf si).toNat)
 case atStart=>exact⟨0,by omega,rfl,bw,aQ,aL,aZ,HG⟩
 case round=>
  clear bw aQ aL aZ HG;obtain⟨j,hj,rfl,HB,aQ,aL,aZ,HG⟩:=hrel;obtain⟨wo,cS⟩:=aB wr;rw[cS] at HB aQ aL aZ ⊢;clear cS
  by_cases nT:j<n
  ·obtain⟨x,hx⟩:∃x,Vs[j]? =ζ x:=⟨_,θ (by have:=Hl.out;omega)⟩
   have kd:Vs.drop j=x::Vs.drop (j+1):=by
    rw[Χ (ν.1 hx).1,(ν.1 hx).2]
   have iZ:=HG.out;rw[kd] at iZ;have dQ:=qh iZ;have uH:=sw.out x (ω hx);have kc:=AL.out x (ω hx);obtain⟨bb,off,rfl,aY,a8⟩:=H.out.place aS (by decide) (by omega);have XT:Hid (bb<wo.heap.size):=qh (JaK aY HB.out.size);have bC:=HB.out;have q0:=a8 j _ hx 0 _ rfl;have q1:=a8 j _ hx 1 _ rfl;have q2:=a8 j _ hx 2 _ rfl;have q3:=a8 j _ hx 3 _ rfl;have q4:=a8 j _ hx 4 _ rfl;simp only[Ν,Jac] at q0 q1 q2 q3 q4;have l0:=(bC.cell (p:=⟨bb,off+j*5,ε⟩) aY).trans q0;have l1:=(bC.cell (p:=⟨bb,off+j*5+1,ε⟩) aY).trans q1;have l2:=(bC.cell (p:=⟨bb,off+j*5+2,ε⟩) aY).trans q2;have l3:=(bC.cell (p:=⟨bb,off+j*5+3,ε⟩) aY).trans q3;have l4:=(bC.cell (p:=⟨bb,off+j*5+4,ε⟩) aY).trans q4;clear bC q0 q1 q2 q3 q4;obtain⟨⟨i1,i2⟩,⟨rA,rn,rc,rL⟩,lb,at_⟩:=x;have hR:bg w w.heap.size 3 rA rn rc (aA rL):=uH.2;replace kc:rn≤5864062014634:=kc
   have hI:∀w',Kept aO wo.drew w'→Ζ η 33 #[γ rA rn rc,φ #[J x1,J x2,J x3]] w' fun e bW=>e=.returned (J (fC rL (x1,x2,x3)))∧σ w'.heap.size w' bW:=
    fun w' hk=>oN rA rn rc rL (x1,x2,x3) w' ((hR.bl (aN HB.out)).bl (hk.below (Δ _) (fun _ _ h=>h))) (by omega)
   have HI:=qh hI;have HE:=qh (Jax l0 l1);have cb:=aQ.out.cell (i:=0) rfl;clear hx kd iZ a8 aY HG uH hR hI l0 l1 l3 l4;obtain⟨ix,N1⟩:=aB (fC rL (x1,x2,x3));rw[N1] at HI;have ZZ:=qh N1;clear N1;go_upto_region 4 with fail
   clear cb;have NH:=cm (i:=0) aQ.out rfl;have WM:=cm (i:=0) aL.out rfl;have TT:=cm (i:=1) aL.out rfl;have ldz:=cm (i:=2) aL.out rfl;have ldr:=cz l2;clear l2;refine ay (aO) (by kernel_rfl) ?_;refine aa 0 ?_;refine aa 1 ?_;refine aa 2 ?_;refine aa 3 ?_;refine aa 4 ?_;refine aa 5 ?_;refine aa 6 ?_;refine cV 7 (hy:=by apply bP;rfl;rotate_left;intro w' aC;exact HI.out w' aC;intro w';go_simp) (h:=?_);refine aa 8 ?_;refine aF (by kernel_rfl) ?_ _;intro W3 du;have j6:=qh (aQ.out.dr.bl du);have eD:=qh (aL.out.dr.bl du);have cE:=qh (aZ.out.dr.bl du);have sO:Hid (σ wo.heap.size wo W3):=qh (ag (aN (Θ _ _)) du);have bB:=qh (ag HB.out sO.out);clear du NH WM TT ldz ldr HB aQ aL aZ HI
   by_cases eE:(x1,x2,x3)∈rL
   ·have e1:fC rL (x1,x2,x3)=(rL.idxOf (x1,x2,x3):Int):=by rw[fC,if_pos eE]
    have h0:0≤ix:=by rw[←ZZ.out,e1];omega
    have hG:=dQ.out;rw[Ak _ _ _ eE] at hG;simp only[Jba] at hG;obtain⟨⟨rfl,rfl⟩,rfl⟩:=hG;obtain⟨l0,l1⟩:=HE.out;have y0:=(sO.out.cell (p:=⟨bb,off+j*5,ε⟩) XT.out).trans l0;have y1:=(sO.out.cell (p:=⟨bb,off+j*5+1,ε⟩) XT.out).trans l1;have cb:=j6.out.cell (i:=0) rfl;have f0:=cE.out.free 0;have f1:=cE.out.free 1;have k0:=cE.out.cell (i:=0) rfl;have k1:=cE.out.cell (i:=1) rfl;have HY:=qh ((cE.out.set_ 0 (J i1)).set_ 1 (J i2));have rQ:=qh ((bB.out.setCell (p:=⟨b2,0,ε⟩) eI.out (J i1)).setCell (p:=⟨b2,1,ε⟩) eI.out (J i2));clear cE dQ bB HE sO l0 l1;go_wp2;exact bS rfl b2 rfl rfl HY.out Tryz.underlying30 rfl (by kernel_rfl) rfl ⟨rfl,rQ.out⟩
   ·have h0:¬0≤ix:=by rw[←ZZ.out,show fC rL (x1,x2,x3)= -1 by rw[fC,if_neg eE]];omega
    have hG:=dQ.out;rw[EI _ _ _ eE] at hG;have Bx:=qh hG;clear hG dQ HE sO;go_wp2;go_roundw
    case rel=>exact⟨j+1,by omega,by go_num,bB,j6,eD,cE,Bx⟩
    case measure=>simp[intOf];omega
  ·obtain rfl:n=j:=by omega
   have hG:=HG.out;rw[Jav (by have:=Hl.out;omega)] at hG;replace hG:(((0:Int),(0:Int)),ρ)=((r1,r2),r3):=hG;simp only[Jba] at hG;obtain⟨⟨rfl,rfl⟩,rfl⟩:=hG;have cb:=aQ.out.cell (i:=0) rfl;have f0:=aZ.out.free 0;have f1:=aZ.out.free 1;have k0:=aZ.out.cell (i:=0) rfl;have k1:=aZ.out.cell (i:=1) rfl;have HY:=qh ((aZ.out.set_ 0 (J 0)).set_ 1 (J 0));have rQ:=qh ((HB.out.setCell (p:=⟨b2,0,ε⟩) eI.out (J 0)).setCell (p:=⟨b2,1,ε⟩) eI.out (J 0));clear HG aZ;go_wp2;exact bS rfl b2 rfl rfl HY.out Tryz.underlying30 rfl (by kernel_rfl) rfl ⟨rfl,rQ.out⟩
def fj (Vs:List VC) (x:D):Nat:=(ao Vs).count x
theorem Cg (Vs:List VC) (x:D) (j:Nat) (v:VC) (h:Vs[j]? =ζ v):fj (Vs.take (j+1)) x=fj (Vs.take j) x+v.2.1.2.2.2.count x:=by
 have:Vs.take (j+1)=Vs.take j++[v]:=by rw[Jbc,h];rfl
 rw[fj,fj,this,ao,List.flatMap_append,List.count_append];simp[ao]
theorem En (L:List D) (x:D) (q:Nat) (d:D) (h:L[q]? =ζ d):(L.take (q+1)).count x=(L.take q).count x+if d=x then 1 else 0:=by
 have:L.take (q+1)=L.take q++[d]:=by rw[Jbc,h];rfl
 rw[this,List.count_append,List.count_singleton];simp
theorem Eu (A:Option Κ) (n c:Nat) (Vs:List VC) (B:Option Κ) (m k:Nat) (Es:List EC) (x1 x2 x3:Int) (w:ο) (h:bz w A n c Vs B m k Es) (hn:n≤10000) (hr:∀y∈Vs,y.2.1.2.1≤5864062014634):
 Ζ η 107 #[φ #[γ A n c,γ B m k],φ #[J x1,J x2,J x3]] w fun e w'=>e=.returned (J (fj Vs (x1,x2,x3):Nat))∧σ w.heap.size w w':=by
 have H:=qh h.v;have sw:=qh h.r;have AL:=qh hr;have Hl:=qh (h.v.rlen aS (by decide));obtain⟨T,gT⟩:=aB (fj Vs (x1,x2,x3));rw[gT];have GT:=qh gT;clear h hr gT;go_enter Tryz.func107,Tryz.ntmps107;go_wp2;obtain⟨W0,b0,b1,bO,bp,dE,aQ,aL,bw,mQ,lZ,oa,uD,iP,uW⟩:=wT w 25 [γ A n c,γ B m k] 32 [J x1,J x2,J x3];rw[bO,dE,bp];clear bO bp dE;go_loopw [5,6] (fun sn si wr=>∃j t:Nat,j≤n∧t≤j*5864062014634∧si=J j∧sn=J t∧Hid (σ w.heap.size w wr)∧Hid (Whole wr b0 25 [γ A n c,γ B m k])∧Hid (Whole wr b1 32 [J x1,J x2,J x3])∧Hid (fj (Vs.take j) (x1,x2,x3)=t)) (fun _ si _=>n - (intOf si).toNat)
 case atStart=>exact⟨0,0,by omega,by omega,rfl,rfl,bw,aQ,aL,qh rfl⟩
 case round=>
  clear bw aQ aL;obtain⟨j,t,hj,ht,rfl,rfl,HB,aQ,aL,HG⟩:=hrel;obtain⟨wo,cS⟩:=aB wr;rw[cS] at HB aQ aL ⊢;clear cS
  by_cases nT:j<n
  ·obtain⟨x,hx⟩:∃x,Vs[j]? =ζ x:=⟨_,θ (by have:=Hl.out;omega)⟩
   have eh:=qh (Cg Vs (x1,x2,x3) j x hx);have uH:=sw.out x (ω hx);have kc:=AL.out x (ω hx);obtain⟨bb,off,rfl,aY,a8⟩:=H.out.place aS (by decide) (by omega);have q2:=a8 j _ hx 2 _ rfl;simp only[Ν,Jac] at q2;obtain⟨⟨i1,i2⟩,⟨rA,rn,rc,rL⟩,lb,at_⟩:=x;have hR0:bg w w.heap.size 3 rA rn rc (aA rL):=uH.2;replace q2:w.cell? ⟨bb,off+j*5+2,ε⟩=ζ (γ rA rn rc):=q2;rw[lN] at hR0;have HR:=qh hR0;have Hrl:=qh (hR0.rlen F8 (by decide));replace kc:rn≤5864062014634:=kc;replace eh:Hid (fj (Vs.take (j+1)) (x1,x2,x3)=fj (Vs.take j) (x1,x2,x3)+rL.count (x1,x2,x3)):=eh;have Q2:=qh q2;have Jd:=qh aY;have cb:=aQ.out.cell (i:=0) rfl;clear hx a8 aY uH hR0 q2;go_wp2;clear cb;go_loopw [5,7] (fun sn si wr=>∃q t':Nat,q≤rn∧t'≤t+q∧si=J q∧sn=J t'∧Hid (σ w.heap.size w wr)∧Hid (Whole wr b0 25 [γ (ζ ⟨bb,off,ε⟩) n c,γ B m k])∧Hid (Whole wr b1 32 [J x1,J x2,J x3])∧Hid (t+(rL.take q).count (x1,x2,x3)=t')) (fun _ si _=>rn - (intOf si).toNat)
   case atStart=>exact⟨0,t,by omega,by omega,rfl,rfl,HB,aQ,aL,qh (by simp)⟩
   case round=>
    clear HB aQ aL;obtain⟨q,t',hq,Wh,rfl,rfl,HZ,fk,mZ,HI⟩:=hrel;obtain⟨wi,wE⟩:=aB wr;rw[wE] at HZ fk mZ ⊢;clear wE;have y2:=(HZ.out.cell (p:=⟨bb,off+j*5+2,ε⟩) Jd.out).trans Q2.out;have cb:=fk.out.cell (i:=0) rfl
    by_cases hqn:q<rn
    ·obtain⟨d,hd⟩:∃d,rL[q]? =ζ d:=⟨_,θ (by have:=Hrl.out;omega)⟩
     have Cw:=En rL (x1,x2,x3) q d hd;obtain⟨rb,ro,rfl,Pc,Br⟩:=HR.out.place F8 (by decide) (by omega);have p0:=Br q _ hd 0 _ rfl;have p1:=Br q _ hd 1 _ rfl;have p2:=Br q _ hd 2 _ rfl;simp only[Ν,Jac] at p0 p1 p2;have e0:=(HZ.out.cell (p:=⟨rb,ro+q*3,ε⟩) Pc).trans p0;have e1:=(HZ.out.cell (p:=⟨rb,ro+q*3+1,ε⟩) Pc).trans p1;have e2:=(HZ.out.cell (p:=⟨rb,ro+q*3+2,ε⟩) Pc).trans p2;obtain⟨d1,d2,d3⟩:=d;have HCn:=qh Cw;clear hd Cw Pc Br p0 p1 p2;go_upto_region 8 with fail
     clear cb;have NH:=cm (i:=0) fk.out rfl;have WM:=cm (i:=0) mZ.out rfl;have TT:=cm (i:=1) mZ.out rfl;have ldz:=cm (i:=2) mZ.out rfl;have ldr:=cz y2;have fL:=cz e0;have ld1:=cz e1;have ka:=cz e2;clear y2 e0 e1 e2;have heq:=fun W=>iI (d1,d2,d3) (x1,x2,x3) W
     obtain⟨bq,yb⟩:=aB (decide ((d1,d2,d3)=(x1,x2,x3)));rw[yb] at heq;have Lg:=qh yb;clear yb;refine ay (aO) (by kernel_rfl) ?_;refine aa 0 ?_;refine aa 1 ?_;refine aa 2 ?_;refine aa 3 ?_;refine aa 4 ?_;refine aa 5 ?_;refine aa 6 ?_;refine aa 7 ?_;refine aa 8 ?_;refine aa 9 ?_;refine cV 10 (hy:=dD (by rfl) (fun w' aC=>dU .eql 32 (.tmp 34) (.tmp 35) 32 rfl rfl rfl (by kernel_rfl) (heq w'))) (h:=?_);refine aF (by kernel_rfl) ?_ _;intro W3 du;have j6:=qh (fk.out.dr.bl du);have eD:=qh (mZ.out.dr.bl du);have bB:=qh (ag (aN HZ.out) du);clear du NH WM TT ldz ldr fL ld1 ka HZ fk mZ heq;cases bq with
     |true=>
      have KF:Hid (t+(rL.take (q+1)).count (x1,x2,x3)=t'+1):=qh (by
       have h1:=HCn.out;rw[if_pos (of_decide_eq_true Lg.out)] at h1;have h2:=HI.out;omega)
      clear HI;go_wp2;go_roundw
      case rel=>exact⟨q+1,t'+1,by omega,by omega,by go_num,by go_num,bB,j6,eD,KF⟩
      case measure=>simp[intOf];omega
     |false=>
      have KF:Hid (t+(rL.take (q+1)).count (x1,x2,x3)=t'):=qh (by
       have h1:=HCn.out;rw[if_neg (of_decide_eq_false Lg.out)] at h1;have h2:=HI.out;omega)
      clear HI;go_wp2;go_roundw
      case rel=>exact⟨q+1,t',by omega,by omega,by go_num,by first|rfl|go_num,bB,j6,eD,KF⟩
      case measure=>simp[intOf];omega
    ·obtain rfl:rn=q:=by omega
     have xH:Hid (fj (Vs.take (j+1)) (x1,x2,x3)=t'):=qh (by
      rw[eh.out,HG.out];have h1:=HI.out;rw[Ι (by have:=Hrl.out;omega)] at h1;exact h1)
     clear HI HG;go_wp2;go_roundw
     case rel=>exact⟨j+1,t',by omega,by omega,by go_num,rfl,HZ,fk,mZ,xH⟩
     case measure=>simp[intOf];omega
  ·obtain rfl:n=j:=by omega
   have hT:T=t:=by
    have h1:=HG.out;rw[Ι (by have:=Hl.out;omega),GT.out] at h1;exact h1
   subst hT;have cb:=aQ.out.cell (i:=0) rfl;clear HG GT;go_wp2;go_ret;exact⟨rfl,HB.out⟩
theorem yB (A:Option Κ) (n c:Nat) (L:List (Int × Int)) (w:ο) (h:bg w w.heap.size 2 A n c (ah lS L)) (hn:n≤1000000):
 Ζ η 83 #[γ A n c] w fun e w'=>e=.returned (Β (fA ε L))∧σ w.heap.size w w':=by
 have H:=qh h;have Hl:=qh (h.rlen pL (by decide));obtain⟨b,gb⟩:=aB (fA ε L);rw[gb];have Ce:=qh gb;clear h gb;go_enter Tryz.func83,Tryz.ntmps83;go_wp2;go_loopw [3] (fun si wr=>∃(j:Nat) (o:Option (Int × Int)),j≤n∧si=J j∧Hid (σ w.heap.size w wr)∧Hid ((o=ε↔j=0)∧∀y,o=ζ y→L[j - 1]? =ζ y)∧Hid (fA o (L.drop j)=b)) (fun si _=>n - (intOf si).toNat)
 case atStart=>exact⟨0,ε,by omega,rfl,qh (Θ _ _),qh ⟨by simp,fun y h=>(by cases h)⟩,Ce⟩
 case round=>
  clear Ce;obtain⟨j,o,hj,rfl,HB,HO,HG⟩:=hrel;obtain⟨wo,cS⟩:=aB wr;rw[cS] at HB ⊢;clear cS
  by_cases nT:j<n
  ·obtain⟨x,hx⟩:∃x,L[j]? =ζ x:=⟨_,θ (by have:=Hl.out;omega)⟩
   have kd:L.drop j=x::L.drop (j+1):=by
    rw[Χ (ν.1 hx).1,(ν.1 hx).2]
   have iZ:=HG.out;rw[kd] at iZ;have dQ:=qh iZ;have FF:Hid ((ζ x=ε↔j+1=0)∧∀y,ζ x=ζ y→L[j+1 - 1]? =ζ y):=qh ⟨by simp,fun y e=>by rw[←e];exact hx⟩;obtain⟨bb,off,rfl,aY,a8⟩:=H.out.place pL (by decide) (by omega);have Jd:=qh aY;have HPL:=qh a8;have bC:=HB.out;have q0:=a8 j _ hx 0 _ rfl;have q1:=a8 j _ hx 1 _ rfl;simp only[Ν,Jac] at q0 q1;have l0:=(bC.cell (p:=⟨bb,off+j*2,ε⟩) aY).trans q0;have l1:=(bC.cell (p:=⟨bb,off+j*2+1,ε⟩) aY).trans q1;clear bC;obtain⟨i1,i2⟩:=x;have Q:=qh (Jax q0 q1);clear hx kd iZ aY a8 q0 q1 HG;go_wp2_with fail
   refine(NJ i1 i2 _).mono ?_
   rintro e W2 ⟨rfl,hb⟩;have bG:=qh (ag HB.out hb);clear hb l0 l1 HB;obtain⟨bm,EP⟩:=aB (dK i1 i2);rw[EP];have Gbm:=qh EP;clear EP;cases bm with
   |false=>
    have fp:b=ρ:=by
     rw[←dQ.out];simp[fA,Gbm.out]
    subst fp;go_upto_region 5 with fail
    refine ay (aO) (by kernel_rfl) ?_;refine aa 0 ?_;refine aa 1 ?_;refine aa 2 ?_;refine cp 3 ?_;refine cp 4 ?_;refine cp 5 ?_;refine cp 6 ?_;refine cp 7 ?_;refine cp 8 ?_;refine cp 9 ?_;refine cp 10 ?_;refine cp 11 ?_;refine cp 12 ?_;refine cp 13 ?_;refine cp 14 ?_;refine cp 15 ?_;refine cp 16 ?_;refine cp 17 ?_;refine aa 18 ?_;refine aF (by kernel_rfl) ?_ _;intro W3 du;have bB:=qh (ag (aN bG.out) du);clear du;go_wp2;go_ret;exact⟨rfl,bB.out⟩
   |true=>
    rcases Nat.eq_zero_or_pos j with rfl|hj0
    ·obtain rfl:o=ε:=HO.out.1.2 rfl;have xH:Hid (fA (ζ (i1,i2)) (L.drop (0+1))=b):=qh (by rw[←dQ.out];simp[fA,Gbm.out]);rw[show((0:Nat):Int)=0 from rfl];go_upto_region 5 with fail
     refine ay (aO) (by kernel_rfl) ?_;refine aa 0 ?_;refine aa 1 ?_;refine aa 2 ?_;refine aa 3 ?_;refine aa 4 ?_;refine aa 5 ?_;refine cp 6 ?_;refine cp 7 ?_;refine cp 8 ?_;refine cp 9 ?_;refine cp 10 ?_;refine cp 11 ?_;refine cp 12 ?_;refine cp 13 ?_;refine cp 14 ?_;refine cp 15 ?_;refine cp 16 ?_;refine aa 17 ?_;refine aa 18 ?_;refine aF (by kernel_rfl) ?_ _;intro W3 du;have bB:=qh (ag (aN bG.out) du);clear du dQ HO;go_wp2;go_roundw
     case rel=>exact⟨0+1,ζ (i1,i2),by omega,by go_num,bB,FF,xH⟩
     case measure=>simp[intOf];omega
    ·obtain⟨y,rfl⟩:∃y,o=ζ y:=by
      cases o with
      |none=>have:=HO.out.1.1 rfl;omega
      |some y=>exact⟨y,rfl⟩
     have hy:=HO.out.2 y rfl;obtain⟨j1,rfl⟩:∃j1,j=j1+1:=⟨j - 1,by omega⟩
     rw[Nat.add_sub_cancel] at hy;obtain⟨y1,y2⟩:=y;have p0:=HPL.out j1 _ hy 0 _ rfl;have p1:=HPL.out j1 _ hy 1 _ rfl;simp only[Ν,Jac] at p0 p1;obtain⟨jj,gjj⟩:=aB (j1+1);rw[gjj] at Q FF dQ ⊢;have CP:Jaw.wrap ((jj:Int) - 1)=(j1:Int):=by rw[←gjj];exact(Jbb _ (by omega)).trans (by omega)
     have amP:j1<n:=by omega
     have akL:0<jj:=by omega
     have am3:jj<n:=by omega
     have hjI:decide ((0:Int)<(jj:Int))=τ:=decide_eq_true (by omega);have Gjj:=qh gjj;clear gjj hj nT hj0 HO hy;obtain⟨ox,gox⟩:=aB (jz y1 y2 i1 i2);have Gox:=qh gox;have hOr:=qh (fun w'=>vy y1 y2 i1 i2 w');rw[gox] at hOr;clear gox;go_upto_region 5 with fail
     have aeZ:∀w',Kept aO W2.drew w'→w'.cell? ⟨bb,off+jj*2,ε⟩=ζ (J i1):=fun w' h=>h.nil_cell ((bG.out.drew.cell (p:=⟨bb,off+jj*2,ε⟩) Jd.out).trans Q.out.1)
     have ad2:∀w',Kept aO W2.drew w'→w'.cell? ⟨bb,off+jj*2+1,ε⟩=ζ (J i2):=fun w' h=>h.nil_cell ((bG.out.drew.cell (p:=⟨bb,off+jj*2+1,ε⟩) Jd.out).trans Q.out.2)
     have acE:∀w',Kept aO W2.drew w'→w'.cell? ⟨bb,off+j1*2,ε⟩=ζ (J y1):=fun w' h=>h.nil_cell ((bG.out.drew.cell (p:=⟨bb,off+j1*2,ε⟩) Jd.out).trans p0)
     have adi:∀w',Kept aO W2.drew w'→w'.cell? ⟨bb,off+j1*2+1,ε⟩=ζ (J y2):=fun w' h=>h.nil_cell ((bG.out.drew.cell (p:=⟨bb,off+j1*2+1,ε⟩) Jd.out).trans p1)
     clear p0 p1 Q;refine ay (aO) (by kernel_rfl) ?_;refine aa 0 ?_;refine aa 1 ?_;refine aa 2 ?_;refine aa 3 ?_;refine aa 4 ?_;refine aa 5 ?_;refine aa 6 ?_;refine aa 7 ?_;refine aa 8 ?_;refine aa 9 ?_;refine aa 10 ?_;refine aa 11 ?_;refine aa 12 ?_;refine aa 13 ?_;refine aa 14 ?_;refine cV 15 (hy:=by apply bP;rfl;rotate_left;intro w' aC;exact hOr.out w';intro w';go_simp) (h:=?_);refine aa 16 ?_;refine aa 17 ?_;refine aa 18 ?_;refine aF (by kernel_rfl) ?_ _;intro W3 du;have bB:=qh (ag (aN bG.out) du);clear du aeZ ad2 acE adi hOr CP
     by_cases hox:0≤ox
     ·have fp:b=ρ:=by
       rw[←dQ.out]
       have:¬jz y1 y2 i1 i2<0:=by rw[Gox.out];omega
       simp[fA,Gbm.out,this]
      subst fp;clear dQ;go_wp2;go_ret;exact⟨rfl,bB.out⟩
     ·have xH:Hid (fA (ζ (i1,i2)) (L.drop (jj+1))=b):=qh (by
       rw[←dQ.out]
       have:jz y1 y2 i1 i2<0:=by rw[Gox.out];omega
       simp[fA,Gbm.out,this])
      clear dQ;go_wp2;go_roundw
      case rel=>exact⟨jj+1,ζ (i1,i2),by omega,by go_num,bB,FF,xH⟩
      case measure=>have:=Gjj.out;simp[intOf];omega
  ·obtain rfl:n=j:=by omega
   have hq:b=τ:=by
    rw[←HG.out,Jav (by have:=Hl.out;omega)];rfl
   subst hq;clear HG HO;go_wp2;go_ret;exact⟨rfl,HB.out⟩
theorem Wm (x y:Int × Int) (W:ο):(binOp .neq 30 (φ (lS x).toArray) (φ (lS y).toArray)).run η W=.ok (Β (!decide (x=y))) W:=by
 obtain⟨a1,a2⟩:=x;obtain⟨b1,b2⟩:=y
 by_cases h1:a1=b1<;>by_cases h2:a2=b2<;>simp[go_sem,lS,h1,h2]
theorem F4 (A:Option Κ) (n c:Nat) (Vs:List VC) (B:Option Κ) (m k:Nat) (Es:List EC) (w:ο) (h:bz w A n c Vs B m k Es) (hn:n≤1000000) (hm:m≤1000000):
 Ζ η 82 #[φ #[γ A n c,γ B m k]] w fun e w'=>∃A' c',e=.returned (γ A' (n+m) c')∧Ow w (w.heap.size+1) 30 2 (γ A' (n+m) c') (n+m) (ah lS (Vs.map (·.1)++Es.map (·.1))) w':=by
 have HV:=qh h.v;have HE:=qh h.e;have oG:=qh (h.v.rlen aS (by decide));have LB:=qh (h.e.rlen bM (by decide));obtain⟨i0,hi,qJ,ly,kK⟩:=aW No;clear h;go_enter Tryz.func82,Tryz.ntmps82;go_wp2;have lQ:=(Whole.new_ w 25 [γ A n c,γ B m k]).alloc (δ #[] 30);have oI:=az w (δ #[γ A n c,γ B m k] 25);have hO0:Ow w (w.heap.size+1) 30 2 (γ (ζ ⟨(w.alloc (δ #[γ A n c,γ B m k] 25)).heap.size,0,ε⟩) 0 0) 0 [] ((w.alloc (δ #[γ A n c,γ B m k] 25)).alloc (δ #[] 30)):=Ow.new_ (cs:=#[]) oI (by omega) (by simp) (Jas _) rfl;rw[show(w.alloc (δ #[γ A n c,γ B m k] 25)).heap.size=w.heap.size+1 by simp] at hO0;obtain⟨W0,bO⟩:=aB ((w.alloc (δ #[γ A n c,γ B m k] 25)).alloc (δ #[] 30));rw[bO] at lQ hO0;have PC:Hid (Ow w (w.heap.size+1) 30 2 (γ (ζ ⟨w.heap.size+1,0,ε⟩) 0 0) 0 (ah lS ([]++(Vs.take 0).map (·.1))) W0):=qh hO0;obtain⟨B2,UF⟩:=aB (w.heap.size+1);obtain⟨b0,bp⟩:=aB w.heap.size;have h0B:b0<B2:=by omega
 rw[UF] at PC;rw[bp] at lQ;have aQ:=qh lQ;have GB2:=qh UF;rw[bO,UF,bp];clear lQ oI hO0 bO UF bp;go_loopw [3,4] (fun v si wr=>∃j:Nat,j≤n∧si=J j∧Hid (Ow w B2 30 2 v j (ah lS ([]++(Vs.take j).map (·.1))) wr)∧Hid (Whole wr b0 25 [γ A n c,γ B m k])) (fun _ si _=>n - (intOf si).toNat)
 case atStart=>exact⟨0,by omega,rfl,PC,aQ⟩
 case round=>
  clear PC aQ;obtain⟨j,hj,rfl,HO,HX⟩:=hrel;obtain⟨wo,cS⟩:=aB wr;rw[cS] at HO HX ⊢;clear cS;have cb:=HX.out.cell (i:=0) rfl
  by_cases nT:j<n
  ·obtain⟨x,hx⟩:∃x,Vs[j]? =ζ x:=⟨_,θ (by have:=oG.out;omega)⟩
   obtain⟨bb,off,rfl,aY,a8⟩:=HV.out.place aS (by decide) (by omega);have bC:=HO.out.below;have q0:=a8 j _ hx 0 _ rfl;have q1:=a8 j _ hx 1 _ rfl;have q2:=a8 j _ hx 2 _ rfl;have q3:=a8 j _ hx 3 _ rfl;have q4:=a8 j _ hx 4 _ rfl;simp only[Ν,Jac] at q0 q1 q2 q3 q4;have l0:=(bC.cell (p:=⟨bb,off+j*5,ε⟩) aY).trans q0;have l1:=(bC.cell (p:=⟨bb,off+j*5+1,ε⟩) aY).trans q1;have l2:=(bC.cell (p:=⟨bb,off+j*5+2,ε⟩) aY).trans q2;have l3:=(bC.cell (p:=⟨bb,off+j*5+3,ε⟩) aY).trans q3;have l4:=(bC.cell (p:=⟨bb,off+j*5+4,ε⟩) aY).trans q4;have eh:=qh (xw (·.1) [] Vs j x hx);obtain⟨⟨i1,i2⟩,⟨rA,rn,rc,rL⟩,lb,at_⟩:=x;clear hx a8 q0 q1 q2 q3 q4 aY bC
   go_wp2_with (first
    |(at_builtin
      refine cC rfl (.tmp 14) (.tmp 21) _ rfl _ 30 i0 _ 2 16 Tryz.underlying121 hi qJ ly kK rfl (by decide) _ _ _ rfl (by exact HO.out.up (az _ _)) _ (ζ ⟨wo.heap.size,0,ε⟩) 1 1 [J i1,J i2] rfl (by exact bg.of_whole (Whole.new_ _ _ _) rfl) (by simp[Τ]) (by unfold Jap;omega) (by omega) ?_;intro v1 w1 fh cP tF
      have nb:Hid (Ow w B2 30 2 v1 (j+1) (ah lS ([]++(Vs.take (j+1)).map (·.1))) w1):=qh (by
       have h9:=eh.out;rw[←h9];exact fh)
      have aL:Hid (Whole w1 b0 25 [γ (ζ ⟨bb,off,ε⟩) n c,γ B m k]):=qh ((HX.out.alloc _).grown tF (HO.out.low_ne h0B));clear fh cP tF))
   go_roundw
   case rel=>exact⟨j+1,by omega,by go_num,nb,aL⟩
   case measure=>simp[intOf];omega
  ·obtain rfl:n=j:=by omega
   have iN:Hid (Ow w B2 30 2 u3 (n+0) (ah lS (Vs.map (·.1)++(Es.take 0).map (·.1))) wo):=qh (by
    have h9:=HO.out;rw[Ι (by have:=oG.out;omega),List.nil_append] at h9;simpa using h9)
   have c1:=HX.out.cell (i:=1) rfl;clear HO;go_wp2;clear c1;go_loopw [3,5] (fun v si wr=>∃j:Nat,j≤m∧si=J j∧Hid (Ow w B2 30 2 v (n+j) (ah lS (Vs.map (·.1)++(Es.take j).map (·.1))) wr)∧Hid (Whole wr b0 25 [γ A n c,γ B m k])) (fun _ si _=>m - (intOf si).toNat)
   case atStart=>exact⟨0,by omega,rfl,iN,HX⟩
   case round=>
    clear iN HX;obtain⟨j,KJ,rfl,HO,HX⟩:=hrel;obtain⟨wi,wE⟩:=aB wr;rw[wE] at HO HX ⊢;clear wE;have cb:=HX.out.cell (i:=1) rfl
    by_cases hjm:j<m
    ·obtain⟨x,hx⟩:∃x,Es[j]? =ζ x:=⟨_,θ (by have:=LB.out;omega)⟩
     obtain⟨bb,off,rfl,aY,a8⟩:=HE.out.place bM (by decide) (by omega);have bC:=HO.out.below;have q0:=a8 j _ hx 0 _ rfl;have q1:=a8 j _ hx 1 _ rfl;have q2:=a8 j _ hx 2 _ rfl;have q3:=a8 j _ hx 3 _ rfl;simp only[Ν,Jac] at q0 q1 q2 q3;have l0:=(bC.cell (p:=⟨bb,off+j*4,ε⟩) aY).trans q0;have l1:=(bC.cell (p:=⟨bb,off+j*4+1,ε⟩) aY).trans q1;have l2:=(bC.cell (p:=⟨bb,off+j*4+2,ε⟩) aY).trans q2;have l3:=(bC.cell (p:=⟨bb,off+j*4+3,ε⟩) aY).trans q3;have eh:=qh (xw (·.1) (Vs.map (·.1)) Es j x hx);obtain⟨⟨i1,i2⟩,lb,at_⟩:=x;clear hx a8 q0 q1 q2 q3 aY bC
     go_wp2_with (first
      |(at_builtin
        refine cC rfl (.tmp 30) (.tmp 37) _ rfl _ 30 i0 _ 2 16 Tryz.underlying121 hi qJ ly kK rfl (by decide) _ _ _ rfl (by exact HO.out.up (az _ _)) _ (ζ ⟨wi.heap.size,0,ε⟩) 1 1 [J i1,J i2] rfl (by exact bg.of_whole (Whole.new_ _ _ _) rfl) (by simp[Τ]) (by unfold Jap;omega) (by omega) ?_;intro v1 w1 fh cP tF
        have nb:Hid (Ow w B2 30 2 v1 (n+(j+1)) (ah lS (Vs.map (·.1)++(Es.take (j+1)).map (·.1))) w1):=qh (by
         have h9:=eh.out;rw[←h9];exact fh)
        have aL:Hid (Whole w1 b0 25 [γ A n c,γ (ζ ⟨bb,off,ε⟩) m k]):=qh ((HX.out.alloc _).grown tF (HO.out.low_ne h0B));clear fh cP tF))
     go_roundw
     case rel=>exact⟨j+1,by omega,by go_num,nb,aL⟩
     case measure=>simp[intOf];omega
    ·obtain rfl:m=j:=by omega
     have ho:=HO.out;rw[Ι (by have:=LB.out;omega)] at ho;obtain⟨A',c',rfl,-⟩:=ho.rds;have Ck:=qh ho;clear HO ho;go_wp2;go_ret
     refine⟨A',c',rfl,?_⟩
     first|exact Ck.out|(rw[GB2.out];exact Ck.out)
def nM (d:D):Bool:=decide (0≤d.2.2) && decide (d.2.2≤1)
def me (Es:List EC) (d:D):Bool:=(wu Es (d.1,d.2.1)).2 && nM d
def rf (Es:List EC) (v:VC):Bool:=pj v && v.2.1.2.2.2.all (me Es)
def gw (Vs:List VC) (e:EC):Nat→Bool
 |0=>decide (fj Vs (e.1.1,e.1.2,0)=1) && decide (fj Vs (e.1.1,e.1.2,1)=1)
 |1=>decide (fj Vs (e.1.1,e.1.2,1)=1)
 |_=>τ
def tB (Vs:List VC) (Es:List EC):Bool:=Vs.all (rf Es) && Es.all (fun e=>gw Vs e 0)
theorem CQ (Vs:List VC) (e:EC) (q:Nat) (h:q<2):gw Vs e q=(decide (fj Vs (e.1.1,e.1.2,(q:Int))=1) && gw Vs e (q+1)):=by
 obtain rfl|rfl:q=0∨q=1:=by omega
 ·rfl
 ·simp[gw]
theorem Cf {w wo W:ο} {B:Nat} (h:σ w.heap.size w wo) (hB:w.heap.size≤B) (hk:Kept (cw B) wo W):σ w.heap.size w W:=
 ⟨hk.os.trans h.os,hk.tape.trans h.tape,hk.output.trans h.output,Λ h.size hk.size,fun i hi=>(hk.block i (JaK hi h.size) (fun e=>by unfold cw at e;omega)).trans (h.block i hi)⟩
theorem Fl (A:Option Κ) (n c:Nat) (Vs:List VC) (B:Option Κ) (m k:Nat) (Es:List EC) (w:ο) (h:bz w A n c Vs B m k Es) (hn:n≤10000) (hm:m≤140737488355328) (hr:∀y∈Vs,y.2.1.2.1≤5864062014634):
 Ζ η 84 #[φ #[γ A n c,γ B m k]] w fun e w'=>e=.returned (Β (tB Vs Es))∧σ w.heap.size w w':=by
 have H:=qh h.v;have HE:=qh h.e;have sw:=qh h.r;have AL:=qh hr;have Hl:=qh (h.v.rlen aS (by decide));have LB:=qh (h.e.rlen bM (by decide));have HFe:=qh (fun x1 x2 W (hb:σ w.heap.size w W)=>UZ A n c Vs B m k Es x1 x2 W (h.e.bl hb) hm);have HTi:=qh (fun x1 x2 x3 W (hb:σ w.heap.size w W)=>Eu A n c Vs B m k Es x1 x2 x3 W (h.below hb) hn hr);obtain⟨b,gb⟩:=aB (tB Vs Es);rw[gb];have Ce:Hid (((Vs.drop 0).all (rf Es) && Es.all (fun e=>gw Vs e 0))=b):=qh gb;clear h hr gb;go_enter Tryz.func84,Tryz.ntmps84;go_wp2;obtain⟨W0,b0,bO,bp,aQ,bw,mQ,lZ,oa⟩:=yj w 25 [γ A n c,γ B m k];rw[bO,bp];clear bO bp;go_loopw [3] (fun si wr=>∃j:Nat,j≤n∧si=J j∧Hid (σ w.heap.size w wr)∧Hid (Whole wr b0 25 [γ A n c,γ B m k])∧Hid (((Vs.drop j).all (rf Es) && Es.all (fun e=>gw Vs e 0))=b)) (fun si _=>n - (intOf si).toNat)
 case atStart=>exact⟨0,by omega,rfl,bw,aQ,Ce⟩
 case round=>
  clear bw aQ Ce;obtain⟨j,hj,rfl,HB,aQ,HG⟩:=hrel;obtain⟨wo,cS⟩:=aB wr;rw[cS] at HB aQ ⊢;clear cS;have cb:=aQ.out.cell (i:=0) rfl
  by_cases nT:j<n
  ·obtain⟨x,hx⟩:∃x,Vs[j]? =ζ x:=⟨_,θ (by have:=Hl.out;omega)⟩
   have kd:Vs.drop j=x::Vs.drop (j+1):=by
    rw[Χ (ν.1 hx).1,(ν.1 hx).2]
   have iZ:=HG.out;rw[kd] at iZ;obtain⟨bR,VD⟩:=aB (((Vs.drop (j+1)).all (rf Es) && Es.all (fun e=>gw Vs e 0)))
   have KK:(rf Es x && bR)=b:=by
    rw[←iZ,←VD,List.all_cons,Bool.and_assoc]
   have HbR:=qh VD;have uH:=sw.out x (ω hx);have kc:=AL.out x (ω hx);obtain⟨bb,off,rfl,aY,a8⟩:=H.out.place aS (by decide) (by omega);have q1:=a8 j _ hx 2 _ rfl;simp only[Ν,Jac] at q1;obtain⟨⟨i1,i2⟩,⟨rA,rn,rc,rL⟩,lb,at_⟩:=x;have l2:wo.cell? ⟨bb,off+j*5+2,ε⟩=ζ (γ rA rn rc):=(HB.out.cell (p:=⟨bb,off+j*5+2,ε⟩) aY).trans q1;have hR:bg w w.heap.size 3 rA rn rc (aA rL):=uH.2;replace kc:rn≤5864062014634:=kc;replace KK:((decide (rL=aM rL) && rL.all (me Es)) && bR)=b:=KK;have xH:=qh KK;have qx:=hR.dlen;have HT:=qh (fun W (hb:σ w.heap.size w W)=>El rA rn rc rL W (hR.bl hb) kc);have HD:=qh (fun W (hb:σ w.heap.size w W) A2 c2 (h2:bg W W.heap.size 3 A2 (aM rL).length c2 (aA (aM rL)))=>xx rA A2 rn (aM rL).length rc c2 rL (aM rL) W (hR.bl hb) h2 (by omega));have HR:=qh (lN rL▸hR);have Hrl:=qh qx;obtain⟨bt,xY⟩:=aB (decide (rL=aM rL));rw[xY] at xH HD;obtain⟨tn,gtn⟩:=aB ((aM rL).length);have XR:Hid (∀W,σ w.heap.size w W→Ζ η 79 #[γ rA rn rc] W fun e w'=>∃A2 c2,e=.returned (γ A2 tn c2)∧bg w' w'.heap.size 3 A2 tn c2 (aA (aM rL))∧σ W.heap.size W w'):=qh (by rw[←gtn];exact HT.out);rw[gtn] at HD;clear hx kd iZ KK aY a8 uH hR qx HG q1 HT xY VD gtn;go_wp2_with fail
   refine(XR.out _ HB.out).mono ?_
   rintro e W2 ⟨A2,c2,rfl,oJ,hb⟩;have bG:=qh (ag HB.out hb);have vG:=qh (aQ.out.bl hb);have tL:=qh oJ;clear hb oJ HB aQ XR cb l2;go_wp2_with fail
   refine(HD.out _ bG.out _ _ tL.out).mono ?_
   rintro e W3 ⟨rfl,hb⟩;have bB:=qh (ag bG.out hb);have j6:=qh (vG.out.bl hb);clear hb bG vG HD tL;cases bt with
   |false=>
    have fp:b=ρ:=by rw[←xH.out];simp
    subst fp;clear xH;go_wp2;go_ret;exact⟨rfl,bB.out⟩
   |true=>
    have MF:Hid (((rL.drop 0).all (me Es) && bR)=b):=qh (by
     have h1:=xH.out;rw[Bool.true_and] at h1;exact h1)
    clear xH;go_wp2;go_loopw [6] (fun si wr=>∃q:Nat,q≤rn∧si=J q∧Hid (σ w.heap.size w wr)∧Hid (Whole wr b0 25 [γ (ζ ⟨bb,off,ε⟩) n c,γ B m k])∧Hid (((rL.drop q).all (me Es) && bR)=b)) (fun si _=>rn - (intOf si).toNat)
    case atStart=>exact⟨0,by omega,rfl,bB,j6,MF⟩
    case round=>
     clear bB j6 MF;obtain⟨q,hq,rfl,HZ,fk,HI⟩:=hrel;obtain⟨wi,wE⟩:=aB wr;rw[wE] at HZ fk ⊢;clear wE
     by_cases hqn:q<rn
     ·obtain⟨d,hd⟩:∃d,rL[q]? =ζ d:=⟨_,θ (by have:=Hrl.out;omega)⟩
      have kd:rL.drop q=d::rL.drop (q+1):=by
       rw[Χ (ν.1 hd).1,(ν.1 hd).2]
      have hi:=HI.out;rw[kd,List.all_cons,Bool.and_assoc] at hi;have oF:=qh hi;obtain⟨rb,ro,rfl,Pc,Br⟩:=HR.out.place F8 (by decide) (by omega);have p0:=Br q _ hd 0 _ rfl;have p1:=Br q _ hd 1 _ rfl;have p2:=Br q _ hd 2 _ rfl;simp only[Ν,Jac] at p0 p1 p2;have e0:=(HZ.out.cell (p:=⟨rb,ro+q*3,ε⟩) Pc).trans p0;have e1:=(HZ.out.cell (p:=⟨rb,ro+q*3+1,ε⟩) Pc).trans p1;obtain⟨d1,d2,d3⟩:=d;have P2:Hid (∀W,σ w.heap.size w W→W.cell? ⟨rb,ro+q*3+2,ε⟩=ζ (J d3)):=qh (fun W hb=>(hb.cell (p:=⟨rb,ro+q*3+2,ε⟩) Pc).trans p2);obtain⟨⟨ed,ok⟩,ged⟩:∃z,wu Es (d1,d2)=z:=⟨_,rfl⟩
      obtain⟨B2,UF⟩:=aB wi.heap.size;have nf:=qh UF
      have HEd:Hid (∀w',Kept (cw B2) wi.drew w'→Ζ η 30 #[φ #[γ (ζ ⟨bb,off,ε⟩) n c,γ B m k],φ #[J d1,J d2]] w' fun e bW=>e=.returned (Ξ #[φ (eC ed).toArray,Β ok])∧σ w'.heap.size w' bW):=qh (fun w' hk=>by
       have:=HFe.out d1 d2 w' (Cf (aN HZ.out) (by rw[←UF];exact HZ.out.size) hk)
       rw[ged] at this;exact this)
      have KF:Hid (((ok && nM (d1,d2,d3)) && ((rL.drop (q+1)).all (me Es) && bR))=b):=qh (by
       have h1:=oF.out;rw[me] at h1;simp only[ged] at h1;exact h1)
      clear hd kd hi oF HI Br p0 p1 p2 ged;go_upto_region 11 with fail
      have NH:∀w',Kept (cw B2) wi.drew w'→w'.cell? ⟨b0,0,ε⟩=ζ (γ (ζ ⟨bb,off,ε⟩) n c):=fun w' h=>h.from_cell (Nat.lt_of_lt_of_eq fk.out.lt nf.out) (fk.out.dr.cell (i:=0) rfl)
      have ldc:∀w',Kept (cw B2) wi.drew w'→w'.cell? ⟨b0,1,ε⟩=ζ (γ B m k):=fun w' h=>h.from_cell (Nat.lt_of_lt_of_eq fk.out.lt nf.out) (fk.out.dr.cell (i:=1) rfl)
      have fL:∀w',Kept (cw B2) wi.drew w'→w'.cell? ⟨rb,ro+q*3,ε⟩=ζ (J d1):=fun w' h=>h.from_cell (Nat.lt_of_lt_of_eq (JaK Pc HZ.out.size) nf.out) (e0)
      have ld1:∀w',Kept (cw B2) wi.drew w'→w'.cell? ⟨rb,ro+q*3+1,ε⟩=ζ (J d2):=fun w' h=>h.from_cell (Nat.lt_of_lt_of_eq (JaK Pc HZ.out.size) nf.out) (e1)
      clear e0 e1;refine ay (cw B2) (by kernel_rfl) ?_;refine aa 0 ?_;refine aa 1 ?_;refine aa 2 ?_;refine aa 3 ?_;refine aa 4 ?_;refine aa 5 ?_;refine cV 6 (hy:=by apply bP;rfl;rotate_left;intro w' aC;exact HEd.out w' aC;intro w';go_simp) (h:=?_);refine aa 7 ?_;refine aa 8 ?_;refine aa 9 ?_;refine yq 10 ?_;intro w' aC
      refine⟨.pointer (ζ ⟨w'.heap.size,0,ε⟩),w'.alloc (δ #[J 0,J 0,μ {data:=#[]},J 0] 67),?_,Kept.of_below (az _ _),?_⟩
      ·go_simp
      have oM:Hid (Kept (cw B2) wi.drew (w'.alloc (δ #[J 0,J 0,μ {data:=#[]},J 0] 67))):=qh ((Kept.of_ext aC).trans (Kept.of_below (az _ _)));have HW1:Hid (Whole (w'.alloc (δ #[J 0,J 0,μ {data:=#[]},J 0] 67)) w'.heap.size 67 [J 0,J 0,μ {data:=#[]},J 0]):=qh (Whole.new_ _ _ [J 0,J 0,μ {data:=#[]},J 0]);have HL1:Hid (B2≤w'.heap.size):=qh (by have:=aC.size;have h2:wi.drew.heap.size=wi.heap.size:=rfl;have:=nf.out;omega);obtain⟨W5,sC⟩:=aB (w'.alloc (δ #[J 0,J 0,μ {data:=#[]},J 0] 67));obtain⟨g5,gg5⟩:=aB w'.heap.size;rw[sC] at oM HW1 ⊢;rw[gg5] at HW1 HL1 ⊢;clear aC sC gg5;simp only[ξ,aw,ar,aq];refine gI 11 ?_;intro w' aC
      refine⟨w'.setRow g5 (eC ed).toArray,aR 67 (.tmp 7) (.tmp 44) rfl g5 rfl (eC ed) rfl 67 [J 0,J 0,μ {data:=#[]},J 0] (HW1.out.bl aC) (by kernel_rfl) rfl (by simp[eC,Τ]),bN (show B2≤g5 from HL1.out) _,?_⟩
      have jG:Hid (Kept (cw B2) wi.drew (w'.setRow g5 (eC ed).toArray)):=qh ((oM.out.trans (Kept.of_ext aC)).trans (bN (show B2≤g5 from HL1.out) _));obtain⟨W6,Dr⟩:=aB (w'.setRow g5 (eC ed).toArray);rw[Dr] at jG ⊢;clear aC Dr oM HW1;(try simp only[ξ,aw,ar,aq]);refine aa 12 ?_;refine aF (by kernel_rfl) ?_ _;intro W7 BH;have xU:=jG.out.trans (Kept.of_ext BH);have tM:=qh (Cf (aN HZ.out) (by rw[←nf.out];exact HZ.out.size) xU);have LV:=qh (xU.whole fk.out.dr (fun e=>by have:=fk.out.lt;have:=nf.out;unfold cw at e;omega));have c2:=P2.out _ tM.out;clear BH xU jG HL1 HZ fk NH ldc fL ld1 HEd P2
      by_cases Ye:0≤d3
      ·by_cases pO:d3≤1
       ·have G1:nM (d1,d2,d3)=τ:=by simp[nM,Ye,pO]
        cases ok with
        |false=>
         have fp:b=ρ:=by rw[←KF.out];rfl
         subst fp;clear KF;go_wp2;go_ret;exact⟨rfl,tM.out⟩
        |true=>
         have HI4:Hid (((rL.drop (q+1)).all (me Es) && bR)=b):=qh (by
          have h1:=KF.out;rw[G1,Bool.and_self,Bool.true_and] at h1;exact h1)
         clear KF;go_wp2;go_roundw
         case rel=>exact⟨q+1,by omega,by go_num,tM,LV,HI4⟩
         case measure=>simp[intOf];omega
       ·have G1:nM (d1,d2,d3)=ρ:=by simp[nM,pO]
        have fp:b=ρ:=by rw[←KF.out,G1];simp
        subst fp;clear KF;have al0:1<d3:=by omega
        cases ok with
        |false=>
         go_wp2;go_ret;exact⟨rfl,tM.out⟩
        |true=>
         go_wp2;go_ret;exact⟨rfl,tM.out⟩
      ·have G1:nM (d1,d2,d3)=ρ:=by simp[nM,Ye]
       have fp:b=ρ:=by rw[←KF.out,G1];simp
       subst fp;clear KF;have ak3:d3<0:=by omega
       cases ok with
       |false=>
        go_wp2;go_ret;exact⟨rfl,tM.out⟩
       |true=>
        go_wp2;go_ret;exact⟨rfl,tM.out⟩
     ·obtain rfl:rn=q:=by omega
      have Bx:Hid (((Vs.drop (j+1)).all (rf Es) && Es.all (fun e=>gw Vs e 0))=b):=qh (by
       have h1:=HI.out;rw[Jav (by have:=Hrl.out;omega)] at h1;rw[HbR.out,←h1];rfl)
      clear HI;go_wp2;go_roundw
      case rel=>exact⟨j+1,by omega,by go_num,HZ,fk,Bx⟩
      case measure=>simp[intOf];omega
  ·obtain rfl:n=j:=by omega
   have HE0:Hid (((Es.drop 0).all (fun e=>gw Vs e 0))=b):=qh (by
    have h1:=HG.out;rw[Jav (by have:=Hl.out;omega)] at h1;exact h1)
   clear HG;go_wp2;clear cb;go_loopw [9] (fun si wr=>∃q:Nat,q≤m∧si=J q∧Hid (σ w.heap.size w wr)∧Hid (Whole wr b0 25 [γ A n c,γ B m k])∧Hid (((Es.drop q).all (fun e=>gw Vs e 0))=b)) (fun si _=>m - (intOf si).toNat)
   case atStart=>exact⟨0,by omega,rfl,HB,aQ,HE0⟩
   case round=>
    clear HB aQ HE0;obtain⟨q,hq,rfl,HB,aQ,HG⟩:=hrel;obtain⟨wo,cS⟩:=aB wr;rw[cS] at HB aQ ⊢;clear cS;have cb:=aQ.out.cell (i:=1) rfl
    by_cases hqm:q<m
    ·obtain⟨x,hx⟩:∃x,Es[q]? =ζ x:=⟨_,θ (by have:=LB.out;omega)⟩
     have kd:Es.drop q=x::Es.drop (q+1):=by
      rw[Χ (ν.1 hx).1,(ν.1 hx).2]
     have iZ:=HG.out;rw[kd,List.all_cons] at iZ;obtain⟨bR,VD⟩:=aB ((Es.drop (q+1)).all (fun e=>gw Vs e 0));rw[VD] at iZ;have HbR:=qh VD;have MF:=qh iZ;obtain⟨bb,off,rfl,aY,a8⟩:=HE.out.place bM (by decide) (by omega);have q0:=a8 q _ hx 0 _ rfl;have q1:=a8 q _ hx 1 _ rfl;simp only[Ν,Jac] at q0 q1;have Q0:=qh (Jax q0 q1);have Jd:=qh aY;have eh:=qh (fun t ht=>CQ Vs x t ht);clear hx kd iZ VD aY a8 q0 q1 HG;go_wp2;clear cb;go_loopw [10] (fun si wr=>∃t:Nat,t≤2∧si=J t∧Hid (σ w.heap.size w wr)∧Hid (Whole wr b0 25 [γ A n c,γ (ζ ⟨bb,off,ε⟩) m k])∧Hid ((gw Vs x t && bR)=b)) (fun si _=>2 - (intOf si).toNat)
     case atStart=>exact⟨0,by omega,rfl,HB,aQ,MF⟩
     case round=>
      clear HB aQ MF;obtain⟨t,ht,rfl,HZ,fk,HI⟩:=hrel;obtain⟨wi,wE⟩:=aB wr;rw[wE] at HZ fk ⊢;clear wE
      by_cases ht2:t<2
      ·have hi:=HI.out;rw[eh.out t ht2] at hi;obtain⟨⟨i1,i2⟩,lb,at_⟩:=x;have htI:(t:Int)<2:=by omega
       have e0:=(HZ.out.cell (p:=⟨bb,off+q*4,ε⟩) Jd.out).trans Q0.out.1;have e1:=(HZ.out.cell (p:=⟨bb,off+q*4+1,ε⟩) Jd.out).trans Q0.out.2;dsimp only at hi e0 e1
       have HT:Hid (∀w',Kept aO wi.drew w'→Ζ η 107 #[φ #[γ A n c,γ (ζ ⟨bb,off,ε⟩) m k],φ #[J i1,J i2,J (t:Int)]] w' fun e bW=>e=.returned (J (fj Vs (i1,i2,(t:Int)):Nat))∧σ w'.heap.size w' bW):=
        qh (fun w' hk=>HTi.out i1 i2 t w' (ag (aN HZ.out) (hk.below (Δ _) (fun _ _ h=>h))))
       obtain⟨tv,gtv⟩:=aB (fj Vs (i1,i2,(t:Int)));rw[gtv] at HT hi;have oF:=qh hi;clear hi gtv HI;go_upto_region 20 with fail
       have NH:=cm (i:=0) fk.out rfl;have ldc:=cm (i:=1) fk.out rfl;have fL:=cz e0;have ld1:=cz e1;clear e0 e1;refine ay (aO) (by kernel_rfl) ?_;refine aa 0 ?_;refine aa 1 ?_;refine aa 2 ?_;refine aa 3 ?_;refine aa 4 ?_;refine aa 5 ?_;refine aa 6 ?_;refine aa 7 ?_;refine aa 8 ?_;refine cV 9 (hy:=by apply bP;rfl;rotate_left;intro w' aC;exact HT.out w' aC;intro w';go_simp) (h:=?_);refine aa 10 ?_;refine aF (by kernel_rfl) ?_ _;intro W7 BH;have tM:=qh (ag (aN HZ.out) BH);have LV:=qh (fk.out.dr.bl BH);clear BH HZ fk NH ldc fL ld1 HT
       by_cases YE:tv=1
       ·have agd:((tv:Int) !=1)=ρ:=by subst YE;rfl
        have HI4:Hid ((gw Vs ((i1,i2),lb,at_) (t+1) && bR)=b):=qh (by
         have h1:=oF.out;rw[decide_eq_true YE,Bool.true_and] at h1;exact h1)
        clear oF YE;go_wp2;go_roundw
        case rel=>exact⟨t+1,by omega,by go_num,tM,LV,HI4⟩
        case measure=>simp[intOf];omega
       ·have agd:((tv:Int) !=1)=τ:=by simp;omega
        have fp:b=ρ:=by rw[←oF.out,decide_eq_false YE];rfl
        subst fp;clear oF YE;go_wp2;go_ret;exact⟨rfl,tM.out⟩
      ·obtain rfl:t=2:=by omega
       have Bx:Hid ((Es.drop (q+1)).all (fun e=>gw Vs e 0)=b):=qh (by rw[HbR.out,←HI.out];rfl);clear HI;rw[show((2:Nat):Int)=2 from rfl];go_wp2;go_roundw
       case rel=>exact⟨q+1,by omega,by go_num,HZ,fk,Bx⟩
       case measure=>simp[intOf];omega
    ·obtain rfl:m=q:=by omega
     have fp:b=τ:=by
      rw[←HG.out,Jav (by have:=LB.out;omega)];rfl
     subst fp;clear HG;go_wp2;go_ret;exact⟨rfl,HB.out⟩
def Dq (Vs:List VC) (Es:List EC):Int:=
 if decide (24<Vs.length∨40<Es.length) then 3 else if !(fA ε (Vs.map (·.1)) && fA ε (Es.map (·.1)) && tB Vs Es) then 10
 else if !(Vs.all (fun v=>cQ v.2.2.1) && Es.all (fun v=>cQ v.2.1)) then 4 else if !(Vs.all (fun v=>eR v.2.2.2) && Es.all (fun v=>eR v.2.2)) then 1 else 0
theorem sQ {α:Type} (p:α→Bool) (L:List α) (j:Nat) (x:α) (h:L[j]? =ζ x):(L.take (j+1)).all p=((L.take j).all p && p x):=by
 have:L.take (j+1)=L.take j++[x]:=by rw[Jbc,h];rfl
 rw[this,List.all_append];simp
theorem Ja {w W:ο} {B:Nat} {A:Option Κ} {n m c:Nat} {T:Υ} {L M:List (Int × Int)} (h:Ow w B T 2 (γ A (n+m) c) (n+m) (ah lS (L++M)) W) (hL:L.length=n) (hM:M.length=m):
 bg W W.heap.size 2 A n c (ah lS L)∧bg W W.heap.size 2 (if c=n then A else A.map (·.add (n*2))) m (c - n) (ah lS M)∧n+m≤c∧c≤Jap:=by
 have hr:=aK h.own;have h1:=hr.take_ n (by omega);have h2:=hr.low_ (k:=n) (by omega);rw[←iz lS pL,←hL,List.take_left] at h1;rw[←jt lS pL,←hL,List.drop_left] at h2;rw[hL] at h1 h2;rw[Nat.add_sub_cancel_left] at h2;exact⟨h1,h2,hr.le,nB h.own⟩
theorem J6 (A:Option Κ) (n c:Nat) (Vs:List VC) (B:Option Κ) (m k:Nat) (Es:List EC) (w:ο) (h:bz w A n c Vs B m k Es) (hr:∀y∈Vs,y.2.1.2.1≤5864062014634)
 (hsv:∀x∈Vs,x.2.2.1.size≤Jap) (hse:∀x∈Es,x.2.1.size≤Jap):
 Ζ η 57 #[φ #[γ A n c,γ B m k]] w fun e w'=>e=.returned (J (Dq Vs Es))∧σ w.heap.size w w':=by
 have H:=qh h.v;have HE:=qh h.e;have hl:=h.v.rlen aS (by decide);have hle:=h.e.rlen bM (by decide);have Hl:=qh hl;have LB:=qh hle;have HSv:=qh hsv;have HSe:=qh hse;obtain⟨r,gr⟩:=aB (Dq Vs Es);rw[gr];unfold Dq at gr;rw[hl,hle] at gr
 by_cases ME:24<n∨40<m
 ·rw[decide_eq_true ME] at gr;replace gr:(3:Int)=r:=gr;subst gr;clear h hr hsv hse hl hle;have bE:=qh (az w (δ #[γ A n c,γ B m k] 25))
  by_cases h24:24<n
  ·have q:(24:Int)<(n:Int):=by omega
   clear ME;go_enter Tryz.func57,Tryz.ntmps57;go_wp2;go_ret;exact⟨rfl,bE.out⟩
  ·have q:¬(24:Int)<(n:Int):=by omega
   have q2:(40:Int)<(m:Int):=by omega
   clear ME;go_enter Tryz.func57,Tryz.ntmps57;go_wp2;go_ret;exact⟨rfl,bE.out⟩
 rw[decide_eq_false ME] at gr;have P4:n≤24:=by omega
 have RF:m≤40:=by omega
 have HNm:=qh (fun W (hb:σ w.heap.size w W)=>F4 A n c Vs B m k Es W (h.below hb) (by omega) (by omega));have sw:=qh (fun W (hb:σ w.heap.size w W)=>Fl A n c Vs B m k Es W (h.below hb) (by omega) (by omega) hr);have iQ:(Vs.map (·.1)).length=n:=by rw[Ρ];exact hl
 have jd:(Es.map (·.1)).length=m:=by rw[Ρ];exact hle
 obtain⟨L1,gL1⟩:=aB (Vs.map (·.1));obtain⟨L2,gL2⟩:=aB (Es.map (·.1));rw[gL1,gL2] at HNm;rw[gL1,gL2] at gr;rw[gL1] at iQ;rw[gL2] at jd;have lR:=qh (fun A1 c1 W (h1:bg W W.heap.size 2 A1 n c1 (ah lS L1))=>yB A1 n c1 L1 W h1 (by omega));have tL:=qh (fun A1 c1 W (h1:bg W W.heap.size 2 A1 m c1 (ah lS L2))=>yB A1 m c1 L2 W h1 (by omega));obtain⟨r1,gr1⟩:=aB (fA ε L1);obtain⟨r2,NW⟩:=aB (fA ε L2);obtain⟨r3,gr3⟩:=aB (tB Vs Es);rw[gr1] at lR gr;rw[NW] at tL gr;rw[gr3] at sw gr;have Dg:=qh gr;have Hln:=qh (Jax iQ jd);clear h hr hsv hse hl hle ME gr gr1 NW gr3 gL1 gL2 iQ jd;have qn:¬(24:Int)<(n:Int):=by omega
 have qm:¬(40:Int)<(m:Int):=by omega
 go_enter Tryz.func57,Tryz.ntmps57;go_wp2_with fail
 have lQ:Whole (w.alloc (δ #[γ A n c,γ B m k] 25)) (w.heap.size) 25 [γ A n c,γ B m k]:=(Whole.new_ w 25 [γ A n c,γ B m k]);have oI:σ w.heap.size w (w.alloc (δ #[γ A n c,γ B m k] 25)):=(az w (δ #[γ A n c,γ B m k] 25));have fU:w.heap.size+1≤((w.alloc (δ #[γ A n c,γ B m k] 25))).heap.size:=by simp
 obtain⟨W0,bO⟩:=aB ((w.alloc (δ #[γ A n c,γ B m k] 25)));rw[bO] at lQ oI fU;obtain⟨b0,bp⟩:=aB w.heap.size;rw[bp] at lQ;have aQ:=qh lQ;have bw:=qh oI;have mQ:=qh fU;have lZ:=qh bp;have oa:Hid (w.heap.size≤b0):=qh (by omega);rw[bO];(try rw[bp]);clear bO oI fU lQ bp
 refine(HNm.out _ bw.out).mono ?_
 rintro e W1 ⟨A1,c1,rfl,ho⟩;have bE:=qh (ag bw.out ho.below);have aL:=qh (aQ.out.bl ho.below);obtain⟨R2,ob,DO,qB⟩:=Ja ho Hln.out.1 Hln.out.2;have X8:=qh R2;have qW:=qh ob;obtain⟨A2,XK⟩:=aB ((if c1=n then A1 else A1.map (·.add (n*2))));obtain⟨c2,XY⟩:=aB (c1 - n);rw[XK,XY] at qW;have GA2:=qh XK;have Gc2:=qh XY;have af2:c1≤9223372036854775807:=by unfold Jap at qB;omega
 have cb:=aL.out.cell (i:=0) rfl;clear ho R2 ob qB XK XY bw aQ HNm;go_wp2_with fail
 refine(lR.out _ _ _ X8.out).mono ?_
 rintro e W2 ⟨rfl,hb⟩;have bG:=qh (ag bE.out hb);have aZ:=qh (aL.out.bl hb);have uc:=qh (qW.out.bl hb);clear hb cb bE aL X8 qW lR;go_upto_region 6 with fail
 refine wp_region_lit ?_;refine a7 (v:=?_) (ζ 30) rfl (by rfl) ?_ ?_;rotate_left
 ·go_simp;(try with_reducible rfl)
 simp only[ξ,aw,ar,aq];refine a7 (v:=?_) (ζ 31) rfl (by rfl) ?_ ?_;rotate_left
 ·go_simp;(try with_reducible rfl)
 simp only[ξ,aw,ar,aq];refine a7 (ζ 32) rfl (by rfl) (rM 121 30 (.tmp 30) (.tmp 31) rfl Tryz.underlying121 (s:=2) (by kernel_rfl) rfl rfl (by omega) GA2.out (Nat.add_sub_cancel_left _ _) Gc2.out) ?_;simp only[ξ,aw,ar,aq];go_wp2_with fail
 refine(tL.out _ _ _ uc.out).mono ?_
 rintro e W3 ⟨rfl,hb⟩;have bB:=qh (ag bG.out hb);have cF:=qh (aZ.out.bl hb);clear hb bG aZ uc tL;cases r1 with
 |false=>
  have hr:r=10:=by rw[←Dg.out];rfl
  subst hr;go_wp2;go_ret;exact⟨rfl,bB.out⟩
 |true=>
  cases r2 with
  |false=>
   have hr:r=10:=by rw[←Dg.out];rfl
   subst hr;go_wp2;go_ret;exact⟨rfl,bB.out⟩
  |true=>
   have hx3:=cF.out.cell (i:=0) rfl;have hx4:=cF.out.cell (i:=1) rfl;go_wp2_with fail
   refine(sw.out _ bB.out).mono ?_
   rintro e W4 ⟨rfl,hb⟩;have sx:=qh (ag bB.out hb);have zt:=qh (cF.out.bl hb);clear hb hx3 hx4 bB cF sw;cases r3 with
   |false=>
    have hr:r=10:=by rw[←Dg.out];rfl
    subst hr;go_wp2;go_ret;exact⟨rfl,sx.out⟩
   |true=>
    have HG:Hid ((if !(Vs.all (fun v=>cQ v.2.2.1) && Es.all (fun v=>cQ v.2.1)) then 4 else if !(Vs.all (fun v=>eR v.2.2.2) && Es.all (fun v=>eR v.2.2)) then 1 else 0)=r):=Dg;clear Dg qn qm DO af2;go_wp2;go_loopw [7,8,9] (fun sl sa si wr=>∃(j:Nat) (p q:Bool),j≤n∧si=J j∧sl=Β p∧sa=Β q∧Hid (σ w.heap.size w wr)∧Hid (Whole wr b0 25 [γ A n c,γ B m k])∧Hid ((Vs.take j).all (fun v=>cQ v.2.2.1)=p)∧Hid ((Vs.take j).all (fun v=>eR v.2.2.2)=q)) (fun _ _ si _=>n - (intOf si).toNat)
    case atStart=>exact⟨0,τ,τ,by omega,rfl,rfl,rfl,sx,zt,qh (rfl),qh (rfl)⟩
    case round=>
     clear sx zt;obtain⟨j,p,q,hj,rfl,rfl,rfl,HB,aQ,HP,HQ⟩:=hrel;obtain⟨wo,cS⟩:=aB wr;rw[cS] at HB aQ ⊢;clear cS;have cb:=aQ.out.cell (i:=0) rfl
     by_cases nT:j<n
     ·obtain⟨x,hx⟩:∃x,Vs[j]? =ζ x:=⟨_,θ (by have:=Hl.out;omega)⟩
      have Kx:=sQ (fun v=>cQ v.2.2.1) Vs j x hx;have Vv:=sQ (fun v=>eR v.2.2.2) Vs j x hx;have fU:=HSv.out x (ω hx);obtain⟨bb,off,rfl,aY,a8⟩:=H.out.place aS (by decide) (by omega);have Jd:=qh aY;have q2:=a8 j _ hx 3 _ rfl;have q3:=a8 j _ hx 4 _ rfl;simp only[Ν,Jac] at q2 q3;obtain⟨⟨i1,i2⟩,⟨rA,rn,rc,rL⟩,lb,at_⟩:=x;replace fU:lb.size≤Jap:=fU;replace q2:w.cell? ⟨bb,off+j*5+3,ε⟩=ζ (μ lb):=q2;replace q3:w.cell? ⟨bb,off+j*5+4,ε⟩=ζ (J at_):=q3;have QH:=qh (qp lb fU);have PS:=qh (sz at_);have Q2:Hid (∀W,σ w.heap.size w W→W.cell? ⟨bb,off+j*5+3,ε⟩=ζ (μ lb)):=qh (fun W hb=>(hb.cell (p:=⟨bb,off+j*5+3,ε⟩) aY).trans q2);have Q3:Hid (∀W,σ w.heap.size w W→W.cell? ⟨bb,off+j*5+4,ε⟩=ζ (J at_)):=qh (fun W hb=>(hb.cell (p:=⟨bb,off+j*5+4,ε⟩) aY).trans q3);obtain⟨bl,Gu⟩:=aB (cQ lb);obtain⟨ba,Pq⟩:=aB (eR at_);have Zb:∀W,Ζ η 37 #[μ lb] W fun e w'=>e=.returned (Β bl)∧σ W.heap.size W w':=by rw[←Gu];exact QH.out
      have vl:∀W,Ζ η 38 #[J at_] W fun e w'=>e=.returned (Β ba)∧σ W.heap.size W w':=by rw[←Pq];exact PS.out
      replace QH:=qh Zb;replace PS:=qh vl
      have qW:Hid ((Vs.take (j+1)).all (fun v=>cQ v.2.2.1)=(p && bl)):=qh (by
       have h1:=HP.out;rw[Kx,←Gu,←h1];(try rw[Bool.and_assoc]))
      have uc:Hid ((Vs.take (j+1)).all (fun v=>eR v.2.2.2)=(q && ba)):=qh (by
       have h1:=HQ.out;rw[Vv,←Pq,←h1];(try rw[Bool.and_assoc]))
      clear hx Kx Vv fU aY a8 q2 q3 Gu Pq Zb vl HP HQ;cases p with
      |false=>
       cases q with
       |false=>
        go_wp2;go_roundw
        case rel=>exact⟨j+1,ρ,ρ,by omega,by go_num,rfl,rfl,HB,aQ,by first|exact qW|(have h:=qW;simpa using h),by first|exact uc|(have h:=uc;simpa using h)⟩
        case measure=>simp[intOf];omega
       |true=>
        have l3:=Q3.out _ HB.out;go_wp2_with fail
        refine(PS.out _).mono ?_
        rintro e W3 ⟨rfl,hb⟩;have bB:=qh (ag HB.out hb);have cF:=qh (aQ.out.bl hb);clear hb l3 cb;go_wp2;go_roundw
        case rel=>exact⟨j+1,ρ,ba,by omega,by go_num,rfl,rfl,bB,cF,by first|exact qW|(have h:=qW;simpa using h),by first|exact uc|(have h:=uc;simpa using h)⟩
        case measure=>simp[intOf];omega
      |true=>
       cases q with
       |false=>
        have l2:=Q2.out _ HB.out;go_wp2_with fail
        refine(QH.out _).mono ?_
        rintro e W2 ⟨rfl,hb⟩;have bG:=qh (ag HB.out hb);have aZ:=qh (aQ.out.bl hb);clear hb l2 cb;go_wp2;go_roundw
        case rel=>exact⟨j+1,bl,ρ,by omega,by go_num,rfl,rfl,bG,aZ,by first|exact qW|(have h:=qW;simpa using h),by first|exact uc|(have h:=uc;simpa using h)⟩
        case measure=>simp[intOf];omega
       |true=>
        have l2:=Q2.out _ HB.out;go_wp2_with fail
        refine(QH.out _).mono ?_
        rintro e W2 ⟨rfl,hb⟩;have bG:=qh (ag HB.out hb);have aZ:=qh (aQ.out.bl hb);clear hb l2 cb;have l3:=Q3.out _ bG.out;have cb:=aZ.out.cell (i:=0) rfl;go_wp2_with fail
        refine(PS.out _).mono ?_
        rintro e W3 ⟨rfl,hb⟩;have bB:=qh (ag bG.out hb);have cF:=qh (aZ.out.bl hb);clear hb l3 cb;go_wp2;go_roundw
        case rel=>exact⟨j+1,bl,ba,by omega,by go_num,rfl,rfl,bB,cF,by first|exact qW|(have h:=qW;simpa using h),by first|exact uc|(have h:=uc;simpa using h)⟩
        case measure=>simp[intOf];omega
     ·obtain rfl:n=j:=by omega
      have HPv:Hid (Vs.all (fun v=>cQ v.2.2.1)=p):=qh (by have h1:=HP.out;rwa [Ι (by have:=Hl.out;omega)] at h1);have HQv:Hid (Vs.all (fun v=>eR v.2.2.2)=q):=qh (by have h1:=HQ.out;rwa [Ι (by have:=Hl.out;omega)] at h1);clear HP HQ;go_wp2;clear cb;obtain⟨pv,gpv⟩:=aB p;obtain⟨qv,gqv⟩:=aB q;rw[gpv] at HPv ⊢;rw[gqv] at HQv ⊢;clear gpv gqv;have sx:=HB;have zt:=aQ;clear HB aQ;go_loopw [7,8,10] (fun sl sa si wr=>∃(j:Nat) (p q:Bool),j≤m∧si=J j∧sl=Β p∧sa=Β q∧Hid (σ w.heap.size w wr)∧Hid (Whole wr b0 25 [γ A n c,γ B m k])∧Hid (((Vs.all (fun v=>cQ v.2.2.1)) && (Es.take j).all (fun v=>cQ v.2.1))=p)∧Hid (((Vs.all (fun v=>eR v.2.2.2)) && (Es.take j).all (fun v=>eR v.2.2))=q)) (fun _ _ si _=>m - (intOf si).toNat)
      case atStart=>exact⟨0,pv,qv,by omega,rfl,rfl,rfl,sx,zt,qh (by rw[HPv.out];simp),qh (by rw[HQv.out];simp)⟩
      case round=>
       clear sx zt;obtain⟨j,p,q,hj,rfl,rfl,rfl,HB,aQ,HP,HQ⟩:=hrel;obtain⟨wo,cS⟩:=aB wr;rw[cS] at HB aQ ⊢;clear cS;have cb:=aQ.out.cell (i:=1) rfl
       by_cases nT:j<m
       ·obtain⟨x,hx⟩:∃x,Es[j]? =ζ x:=⟨_,θ (by have:=LB.out;omega)⟩
        have Kx:=sQ (fun v=>cQ v.2.1) Es j x hx;have Vv:=sQ (fun v=>eR v.2.2) Es j x hx;have fU:=HSe.out x (ω hx);obtain⟨bb,off,rfl,aY,a8⟩:=HE.out.place bM (by decide) (by omega);have Jd:=qh aY;have q2:=a8 j _ hx 2 _ rfl;have q3:=a8 j _ hx 3 _ rfl;simp only[Ν,Jac] at q2 q3;obtain⟨⟨i1,i2⟩,lb,at_⟩:=x;replace fU:lb.size≤Jap:=fU;replace q2:w.cell? ⟨bb,off+j*4+2,ε⟩=ζ (μ lb):=q2;replace q3:w.cell? ⟨bb,off+j*4+3,ε⟩=ζ (J at_):=q3;have QH:=qh (qp lb fU);have PS:=qh (sz at_);have Q2:Hid (∀W,σ w.heap.size w W→W.cell? ⟨bb,off+j*4+2,ε⟩=ζ (μ lb)):=qh (fun W hb=>(hb.cell (p:=⟨bb,off+j*4+2,ε⟩) aY).trans q2);have Q3:Hid (∀W,σ w.heap.size w W→W.cell? ⟨bb,off+j*4+3,ε⟩=ζ (J at_)):=qh (fun W hb=>(hb.cell (p:=⟨bb,off+j*4+3,ε⟩) aY).trans q3);obtain⟨bl,Gu⟩:=aB (cQ lb);obtain⟨ba,Pq⟩:=aB (eR at_);have Zb:∀W,Ζ η 37 #[μ lb] W fun e w'=>e=.returned (Β bl)∧σ W.heap.size W w':=by rw[←Gu];exact QH.out
        have vl:∀W,Ζ η 38 #[J at_] W fun e w'=>e=.returned (Β ba)∧σ W.heap.size W w':=by rw[←Pq];exact PS.out
        replace QH:=qh Zb;replace PS:=qh vl
        have qW:Hid (((Vs.all (fun v=>cQ v.2.2.1)) && (Es.take (j+1)).all (fun v=>cQ v.2.1))=(p && bl)):=qh (by
         have h1:=HP.out;rw[Kx,←Gu,←h1];(try rw[Bool.and_assoc]))
        have uc:Hid (((Vs.all (fun v=>eR v.2.2.2)) && (Es.take (j+1)).all (fun v=>eR v.2.2))=(q && ba)):=qh (by
         have h1:=HQ.out;rw[Vv,←Pq,←h1];(try rw[Bool.and_assoc]))
        clear hx Kx Vv fU aY a8 q2 q3 Gu Pq Zb vl HP HQ;cases p with
        |false=>
         cases q with
         |false=>
          go_wp2;go_roundw
          case rel=>exact⟨j+1,ρ,ρ,by omega,by go_num,rfl,rfl,HB,aQ,by first|exact qW|(have h:=qW;simpa using h),by first|exact uc|(have h:=uc;simpa using h)⟩
          case measure=>simp[intOf];omega
         |true=>
          have l3:=Q3.out _ HB.out;go_wp2_with fail
          refine(PS.out _).mono ?_
          rintro e W3 ⟨rfl,hb⟩;have bB:=qh (ag HB.out hb);have cF:=qh (aQ.out.bl hb);clear hb l3 cb;go_wp2;go_roundw
          case rel=>exact⟨j+1,ρ,ba,by omega,by go_num,rfl,rfl,bB,cF,by first|exact qW|(have h:=qW;simpa using h),by first|exact uc|(have h:=uc;simpa using h)⟩
          case measure=>simp[intOf];omega
        |true=>
         cases q with
         |false=>
          have l2:=Q2.out _ HB.out;go_wp2_with fail
          refine(QH.out _).mono ?_
          rintro e W2 ⟨rfl,hb⟩;have bG:=qh (ag HB.out hb);have aZ:=qh (aQ.out.bl hb);clear hb l2 cb;go_wp2;go_roundw
          case rel=>exact⟨j+1,bl,ρ,by omega,by go_num,rfl,rfl,bG,aZ,by first|exact qW|(have h:=qW;simpa using h),by first|exact uc|(have h:=uc;simpa using h)⟩
          case measure=>simp[intOf];omega
         |true=>
          have l2:=Q2.out _ HB.out;go_wp2_with fail
          refine(QH.out _).mono ?_
          rintro e W2 ⟨rfl,hb⟩;have bG:=qh (ag HB.out hb);have aZ:=qh (aQ.out.bl hb);clear hb l2 cb;have l3:=Q3.out _ bG.out;have cb:=aZ.out.cell (i:=1) rfl;go_wp2_with fail
          refine(PS.out _).mono ?_
          rintro e W3 ⟨rfl,hb⟩;have bB:=qh (ag bG.out hb);have cF:=qh (aZ.out.bl hb);clear hb l3 cb;go_wp2;go_roundw
          case rel=>exact⟨j+1,bl,ba,by omega,by go_num,rfl,rfl,bB,cF,by first|exact qW|(have h:=qW;simpa using h),by first|exact uc|(have h:=uc;simpa using h)⟩
          case measure=>simp[intOf];omega
       ·obtain rfl:m=j:=by omega
        have h1:=HP.out;have h2:=HQ.out;rw[Ι (by have:=LB.out;omega)] at h1 h2;cases p with
        |false=>
         have hr:r=4:=by
          rw[←HG.out];simp[h1]
         subst hr;clear h1 h2 HP HQ;go_wp2;go_ret;exact⟨rfl,HB.out⟩
        |true=>
         cases q with
         |false=>
          have hr:r=1:=by
           rw[←HG.out];simp[h1,h2]
          subst hr;clear h1 h2 HP HQ;go_wp2;go_ret;exact⟨rfl,HB.out⟩
         |true=>
          have hr:r=0:=by
           rw[←HG.out];simp[h1,h2]
          subst hr;clear h1 h2 HP HQ;go_wp2;go_ret;exact⟨rfl,HB.out⟩
theorem vV {d:D} {S:List D} (h:S.Nodup):(oB d S).Nodup:=by
 unfold oB;split
 ·exact h
 ·rename_i hn;exact JaJ.2 ⟨hn,h⟩
theorem Cy {d x:D} {S:List D}:x∈oB d S↔x=d∨x∈S:=by
 unfold oB;split
 ·rename_i hm;constructor
  ·exact .inr
  ·rintro (rfl|h)
   ·exact hm
   ·exact h
 ·exact Η
theorem kP:∀(Es:List EC) (S:List D),S.Nodup→(DQ Es S).Nodup
 |[],S,h=>h
 |e::r,S,h=>kP r _ (vV (vV h))
theorem jL:∀(Es:List EC) (S:List D) (x:D),x∈DQ Es S↔x∈S∨∃e∈Es,x=(e.1.1,e.1.2,0)∨x=(e.1.1,e.1.2,1)
 |[],S,x=>by simp[DQ]
 |e::r,S,x=>by
  rw[DQ,jL r,Cy,Cy];simp only[Η,exists_eq_or_imp];constructor
  ·rintro ((h|h|h)|h)
   ·exact .inr (.inl (.inr h))
   ·exact .inr (.inl (.inl h))
   ·exact .inl h
   ·exact .inr (.inr h)
  ·rintro (h|(h|h)|h)
   ·exact .inl (.inr (.inr h))
   ·exact .inl (.inr (.inl h))
   ·exact .inl (.inl h)
   ·exact .inr h
theorem ig:∀(rs S:List D),rY S rs=τ↔rs.Perm S
 |[],S=>by
  simp only[rY,decide_eq_true_eq];constructor
  ·intro h;rw[JaB h]
  ·intro h;rw[←h.length_eq];rfl
 |x::r,S=>by
  rw[rY]
  by_cases h:x∈S
  ·rw[if_pos h,ig r (S.erase x),List.cons_perm_iff_perm_erase];exact⟨fun k=>⟨h,k⟩,fun k=>k.2⟩
  ·rw[if_neg h];constructor
   ·intro k;cases k
   ·intro k;exact absurd (k.mem_iff.1 (List.mem_cons_self ..)) h
theorem JS (Es:List EC) (x:Int × Int):(wu Es x).2=τ↔∃e∈Es,e.1=x:=by
 unfold wu KR;split
 ·rename_i v h;have h1:=List.find?_some h;have h2:=List.mem_of_find?_eq_some h;exact⟨fun _=>⟨v,h2,by simpa using h1⟩,fun _=>rfl⟩
 ·rename_i h;rw[List.find?_eq_none] at h;constructor
  ·intro k;cases k
  ·rintro⟨e,he,rfl⟩;exact absurd (by simp) (h e he)
theorem ri (Es:List EC) (d:D):me Es d=τ↔d∈DQ Es []:=by
 obtain⟨a,b,c⟩:=d;rw[jL,me,Jar,JS];unfold nM;simp only[Jar,decide_eq_true_eq,List.not_mem_nil,false_or,Jba];constructor
 ·rintro⟨⟨e,he,h1⟩,h2,h3⟩;have e1:e.1.1=a:=by rw[h1]
  have e2:e.1.2=b:=by rw[h1]
  refine⟨e,he,?_⟩
  rcases (by omega:c=0∨c=1) with h|h
  ·exact .inl ⟨e1.symm,e2.symm,h⟩
  ·exact .inr ⟨e1.symm,e2.symm,h⟩
 ·rintro⟨e,he,h|h⟩
  ·exact⟨⟨e,he,by rw[h.1,h.2.1]⟩,by omega,by omega⟩
  ·exact⟨⟨e,he,by rw[h.1,h.2.1]⟩,by omega,by omega⟩
theorem yQ {S:List D} (h:S.Nodup) {d:D} (hd:d∈S):S.count d=1:=by
 induction S with
 |nil=>cases hd
 |cons x r ih=>
  rw[JaJ] at h;rw[List.count_cons]
  by_cases e:x=d
  ·subst e;rw[List.count_eq_zero.2 h.1];simp
  ·rcases Η.1 hd with rfl|h1
   ·exact absurd rfl e
   ·rw[ih h.2 h1];simp[e]
theorem Em (Vs:List VC) (Es:List EC):tB Vs Es=(Vs.all pj && rY (DQ Es []) (ao Vs)):=by
 have hS:=kP Es [] List.nodup_nil;rw[Bool.eq_iff_iff];unfold tB rf;rw[Jar,Jar,ig,Φ,Φ,Φ];constructor
 ·rintro⟨h1,h2⟩
  refine⟨fun v hv=>(Jar _ _▸h1 v hv).1,?_⟩
  rw[List.perm_iff_count];intro d
  by_cases hd:d∈DQ Es []
  ·rw[yQ hS hd];obtain⟨e,he,h⟩:=(jL Es [] d).1 hd|>.resolve_left (by simp);have h3:=h2 e he;simp only[gw,Jar,decide_eq_true_eq,fj] at h3;rcases h with rfl|rfl
   ·exact of_decide_eq_true h3.1
   ·exact of_decide_eq_true h3.2
  ·rw[List.count_eq_zero.2 hd,List.count_eq_zero];intro hm;obtain⟨v,hv,hr⟩:=Jat.1 hm;have h3:=(Jar _ _▸h1 v hv).2;exact hd ((ri Es d).1 (Φ.1 h3 d hr))
 ·rintro⟨h1,h2⟩
  refine⟨fun v hv=>?_,fun e he=>?_⟩
  ·rw[Jar]
   refine⟨h1 v hv,Φ.2 fun d hd=>(ri Es d).2 (h2.mem_iff.1 (Jat.2 ⟨v,hv,hd⟩))⟩
  ·have hc:∀d,d∈DQ Es []→(ao Vs).count d=1:=fun d hd=>by
    rw[List.perm_iff_count.1 h2 d];exact yQ hS hd
   simp only[gw,Jar,decide_eq_true_eq,fj];exact⟨decide_eq_true (hc _ ((jL Es [] _).2 (.inr ⟨e,he,.inl rfl⟩))),decide_eq_true (hc _ ((jL Es [] _).2 (.inr ⟨e,he,.inr rfl⟩)))⟩
theorem L8 (Vs:List VC) (Es:List EC):Dq Vs Es=jZ Vs Es:=by
 unfold Dq jZ yE;rw[Em];simp only[Bool.and_assoc]
theorem Km (A:Option Κ) (n c:Nat) (Vs:List VC) (B:Option Κ) (m k:Nat) (Es:List EC) (A':Option Κ) (n' c':Nat) (Ws:List VC) (B':Option Κ) (m' k':Nat) (Fs:List EC) (w:ο)
 (h:bz w A n c Vs B m k Es) (h':bz w A' n' c' Ws B' m' k' Fs) (hn:n≤1000000) (hm:m≤1000000):
 Ζ η 36 #[φ #[γ A n c,γ B m k],φ #[γ A' n' c',γ B' m' k']] w fun e w'=>e=.returned (Β (decide (Vs.map vS=Ws.map vS∧Es=Fs)))∧σ w.heap.size w w':=by
 have Hu:=qh h.v;have Hv:=qh h'.v;have HEu:=qh h.e;have HEv:=qh h'.e;have HRu:=qh h.r;have Sx:=qh h'.r;have hlu:=h.v.rlen aS (by decide);have T9:=h'.v.rlen aS (by decide);have heu:=h.e.rlen bM (by decide);have Vg:=h'.e.rlen bM (by decide);have Hlu:=qh hlu;have oG:=qh T9;have Yr:=qh heu;have Zz:=qh Vg;obtain⟨b,gb⟩:=aB (decide (Vs.map vS=Ws.map vS∧Es=Fs));rw[gb];have HG:=qh gb;have bG:=qh (cr w (δ #[γ A n c,γ B m k] 25) (δ #[γ A' n' c',γ B' m' k'] 25))
 by_cases F9:n=n'
 case neg=>
  have hq:b=ρ:=by
   rw[←gb];refine decide_eq_false (fun e=>F9 ?_)
   have:=congrArg List.length e.1
   simp at this;omega
  subst hq;have bj:((n:Int) !=(n':Int))=τ:=by simp;omega
  have F6:((n:Int)==(n':Int))=ρ:=by simp;omega
  clear h h' gb HG hlu T9 heu Vg;go_enter Tryz.func36,Tryz.ntmps36;go_wp2;go_ret;exact⟨rfl,bG.out⟩
 by_cases Ee:m=m'
 case neg=>
  have hq:b=ρ:=by
   rw[←gb];refine decide_eq_false (fun e=>Ee ?_)
   have:=congrArg List.length e.2
   omega
  subst hq F9;have bj:((m:Int) !=(m':Int))=τ:=by simp;omega
  have F6:((m:Int)==(m':Int))=ρ:=by simp;omega
  clear h h' gb HG hlu T9 heu Vg;go_enter Tryz.func36,Tryz.ntmps36;go_wp2;go_ret;exact⟨rfl,bG.out⟩
 subst F9 Ee;clear h h' gb hlu T9 heu Vg bG;go_enter Tryz.func36,Tryz.ntmps36;go_wp2;obtain⟨W0,b0,b1,bO,bp,dE,aQ,aL,bw,mQ,lZ,oa,uD,iP,uW⟩:=wT w 25 [γ A n c,γ B m k] 25 [γ A' n c',γ B' m k'];rw[bO,dE,bp];clear bO bp dE;go_loopw [5] (fun si wr=>∃j:Nat,j≤n∧si=J j∧Hid (σ w.heap.size w wr)∧Hid (Whole wr b0 25 [γ A n c,γ B m k])∧Hid (Whole wr b1 25 [γ A' n c',γ B' m k'])∧Hid (decide ((Vs.drop j).map vS=(Ws.drop j).map vS∧Es=Fs)=b)) (fun si _=>n - (intOf si).toNat)
 case atStart=>exact⟨0,by omega,rfl,bw,aQ,aL,HG⟩
 case round=>
  clear bw aQ aL HG;obtain⟨j,hj,rfl,HB,aQ,aL,HG⟩:=hrel;obtain⟨wo,cS⟩:=aB wr;rw[cS] at HB aQ aL ⊢;clear cS;have cb:=aQ.out.cell (i:=0) rfl
  by_cases nT:j<n
  ·obtain⟨xu,rE⟩:∃x,Vs[j]? =ζ x:=⟨_,θ (by have:=Hlu.out;omega)⟩
   obtain⟨xv,Ie⟩:∃x,Ws[j]? =ζ x:=⟨_,θ (by have:=oG.out;omega)⟩
   have hg:=HG.out;rw[Χ (ν.1 rE).1,(ν.1 rE).2,Χ (ν.1 Ie).1,(ν.1 Ie).2] at hg;simp only[List.map_cons,List.cons.injEq] at hg;have hru:=HRu.out xu (ω rE);have hrv:=Sx.out xv (ω Ie);obtain⟨WV,Gb,rfl,AI,AO⟩:=Hu.out.place aS (by decide) (by omega);obtain⟨U1,EB,rfl,Bg,As⟩:=Hv.out.place aS (by decide) (by omega);have bC:=HB.out;have q0:=AO j _ rE 0 _ rfl;have q1:=AO j _ rE 1 _ rfl;have q2:=AO j _ rE 2 _ rfl;have q3:=AO j _ rE 3 _ rfl;have q4:=AO j _ rE 4 _ rfl;simp only[Ν,Jac] at q0 q1 q2 q3 q4;have lu0:=(bC.cell (p:=⟨WV,Gb+j*5,ε⟩) AI).trans q0;have lu1:=(bC.cell (p:=⟨WV,Gb+j*5+1,ε⟩) AI).trans q1;have lu2:=(bC.cell (p:=⟨WV,Gb+j*5+2,ε⟩) AI).trans q2;have lu3:=(bC.cell (p:=⟨WV,Gb+j*5+3,ε⟩) AI).trans q3;have lu4:=(bC.cell (p:=⟨WV,Gb+j*5+4,ε⟩) AI).trans q4;clear bC q0 q1 q2 q3 q4;have bC:=aI HB.out (δ (vC xu).toArray 59);have q0:=As j _ Ie 0 _ rfl;have q1:=As j _ Ie 1 _ rfl;have q2:=As j _ Ie 2 _ rfl;have q3:=As j _ Ie 3 _ rfl;have q4:=As j _ Ie 4 _ rfl;simp only[Ν,Jac] at q0 q1 q2 q3 q4;have lv0:=(bC.cell (p:=⟨U1,EB+j*5,ε⟩) Bg).trans q0;have lv1:=(bC.cell (p:=⟨U1,EB+j*5+1,ε⟩) Bg).trans q1;have lv2:=(bC.cell (p:=⟨U1,EB+j*5+2,ε⟩) Bg).trans q2
   have lv3:=(bC.cell (p:=⟨U1,EB+j*5+3,ε⟩) Bg).trans q3;have lv4:=(bC.cell (p:=⟨U1,EB+j*5+4,ε⟩) Bg).trans q4;clear bC q0 q1 q2 q3 q4;obtain⟨⟨i1,i2⟩,⟨rA,rn,rc,rL⟩,lb,at_⟩:=xu;obtain⟨⟨j1,j2⟩,⟨sA,sn,sc,sL⟩,kb,OR⟩:=xv;dsimp only[vC] at lv0 lv1 lv2 lv3 lv4;have hR:bg w w.heap.size 3 rA rn rc (aA rL):=hru.2;have hS:bg w w.heap.size 3 sA sn sc (aA sL):=hrv.2;have KN:rn≤9223372036854775807:=Λ (Λ hR.le hru.1) (by unfold Jap;omega);have HD:=qh (fun W (hb:σ w.heap.size w W)=>xx rA sA rn sn rc sc rL sL W (hR.bl hb) (hS.bl hb) KN);obtain⟨br,gbr⟩:=aB (decide (rL=sL));rw[gbr] at HD;have hid:∀W,(binOp .neq 30 (φ #[J i1,J i2]) (φ #[J j1,J j2])).run η W=.ok (Β (!decide ((i1,i2)=(j1,j2)))) W:=fun W=>Wm (i1,i2) (j1,j2) W
   obtain⟨bi,gbi⟩:=aB (decide ((i1,i2)=(j1,j2)));rw[gbi] at hid;have Py:=bytes_beq lb kb;obtain⟨bs,Vh⟩:=aB (decide (lb=kb));rw[Vh] at Py;obtain⟨ba,Pq⟩:=aB ((at_==OR));have anR:(at_ !=OR)=!ba:=by rw[←Pq];rfl
   have aX:decide (vS ((i1,i2),(rA,rn,rc,rL),lb,at_)=vS ((j1,j2),(sA,sn,sc,sL),kb,OR))=(bi && bs && ba && br):=by
    rw[←gbi,←Vh,←Pq,←gbr,Bool.eq_iff_iff];simp only[vS,decide_eq_true_eq,Jba,Jar,beq_iff_eq];constructor
    ·rintro⟨⟨h1,h2⟩,h3,h4,h5⟩;exact⟨⟨⟨⟨h1,h2⟩,h4⟩,h5⟩,h3⟩
    ·rintro⟨⟨⟨⟨h1,h2⟩,h4⟩,h5⟩,h3⟩;exact⟨⟨h1,h2⟩,h3,h4,h5⟩
   have dQ:Hid ((decide (vS ((i1,i2),(rA,rn,rc,rL),lb,at_)=vS ((j1,j2),(sA,sn,sc,sL),kb,OR)) && decide ((Vs.drop (j+1)).map vS=(Ws.drop (j+1)).map vS∧Es=Fs))=b):=qh (by
    rw[←hg,←Bool.decide_and,decide_eq_decide,and_assoc])
   have HA:=qh aX;have Z2:=aL.out.cell (i:=0) rfl;have cb2:=(aL.out.alloc (δ #[J i1,J i2,γ rA rn rc,μ lb,J at_] 59)).cell (i:=0) rfl;clear rE Ie hg AO As AI Bg HG hru hrv hR hS KN gbr gbi Vh aX;go_wp2_with fail
   refine(HD.out _ (aI (aI HB.out (δ #[J i1,J i2,γ rA rn rc,μ lb,J at_] 59)) (δ #[J j1,J j2,γ sA sn sc,μ kb,J OR] 59))).mono ?_
   rintro e W3 ⟨rfl,hb⟩;have bB:Hid (σ w.heap.size w W3):=qh (ag (aI (aI HB.out _) _) hb);have j6:=qh (((aQ.out.alloc (δ #[J i1,J i2,γ rA rn rc,μ lb,J at_] 59)).alloc (δ #[J j1,J j2,γ sA sn sc,μ kb,J OR] 59)).bl hb);have eD:=qh (((aL.out.alloc (δ #[J i1,J i2,γ rA rn rc,μ lb,J at_] 59)).alloc (δ #[J j1,J j2,γ sA sn sc,μ kb,J OR] 59)).bl hb);have XM:=((Whole.new_ wo 59 [J i1,J i2,γ rA rn rc,μ lb,J at_]).alloc (δ #[J j1,J j2,γ sA sn sc,μ kb,J OR] 59)).bl hb;have Xj:Whole W3 (wo.heap.size+1) 59 [J j1,J j2,γ sA sn sc,μ kb,J OR]:=(show Whole ((wo.alloc (δ #[J i1,J i2,γ rA rn rc,μ lb,J at_] 59)).alloc (δ #[J j1,J j2,γ sA sn sc,μ kb,J OR] 59)) (wo.heap.size+1) 59 [J j1,J j2,γ sA sn sc,μ kb,J OR] from Whole.new2 (by simp)).bl hb;obtain⟨gu,ggu⟩:=aB wo.heap.size;obtain⟨gv,ggv⟩:=aB (wo.heap.size+1);rw[ggv] at Xj;rw[ggu] at XM;(try rw[ggv]);(try rw[ggu]);have mu0:=XM.cell (i:=0) rfl;have mv0:=Xj.cell (i:=0) rfl;have mu1:=XM.cell (i:=1) rfl;have mv1:=Xj.cell (i:=1) rfl;have mu3:=XM.cell (i:=3) rfl;have mv3:=Xj.cell (i:=3) rfl;have mu4:=XM.cell (i:=4) rfl;have mv4:=Xj.cell (i:=4) rfl
   clear hb XM Xj HB aQ aL HD cb Z2 cb2 ggu ggv lu0 lv0 lu1 lv1 lu2 lv2 lu3 lv3 lu4 lv4;cases bi with
   |false=>
    have hq:b=ρ:=by rw[←dQ.out,HA.out];simp
    subst hq;clear dQ HA;go_wp2;go_ret;exact⟨rfl,bB.out⟩
   |true=>
    cases bs with
    |false=>
     have hq:b=ρ:=by rw[←dQ.out,HA.out];simp
     subst hq;clear dQ HA;go_wp2;go_ret;exact⟨rfl,bB.out⟩
    |true=>
     cases ba with
     |false=>
      have hq:b=ρ:=by rw[←dQ.out,HA.out];simp
      subst hq;clear dQ HA;go_wp2;go_ret;exact⟨rfl,bB.out⟩
     |true=>
      cases br with
      |false=>
       have hq:b=ρ:=by rw[←dQ.out,HA.out];simp
       subst hq;clear dQ HA;go_wp2;go_ret;exact⟨rfl,bB.out⟩
      |true=>
       have xH:Hid (decide ((Vs.drop (j+1)).map vS=(Ws.drop (j+1)).map vS∧Es=Fs)=b):=qh (by
        rw[←dQ.out,HA.out];simp)
       clear dQ HA;go_wp2;go_roundw
       case rel=>exact⟨j+1,by omega,by go_num,bB,j6,eD,xH⟩
       case measure=>simp[intOf];omega
  ·obtain rfl:n=j:=by omega
   have Bx:Hid (decide (Es.drop 0=Fs.drop 0)=b):=qh (by
    rw[←HG.out,Jav (show Vs.length≤n by have:=Hlu.out;omega),Jav (show Ws.length≤n by have:=oG.out;omega)];simp)
   clear HG;go_wp2;clear cb;go_loopw [9] (fun si wr=>∃j:Nat,j≤m∧si=J j∧Hid (σ w.heap.size w wr)∧Hid (Whole wr b0 25 [γ A n c,γ B m k])∧Hid (Whole wr b1 25 [γ A' n c',γ B' m k'])∧Hid (decide (Es.drop j=Fs.drop j)=b)) (fun si _=>m - (intOf si).toNat)
   case atStart=>exact⟨0,by omega,rfl,HB,aQ,aL,Bx⟩
   case round=>
    clear HB aQ aL Bx;obtain⟨j,KJ,rfl,HB,aQ,aL,HG⟩:=hrel;obtain⟨wi,wE⟩:=aB wr;rw[wE] at HB aQ aL ⊢;clear wE;have cb:=aQ.out.cell (i:=1) rfl
    by_cases hjm:j<m
    ·obtain⟨xu,rE⟩:∃x,Es[j]? =ζ x:=⟨_,θ (by have:=Yr.out;omega)⟩
     obtain⟨xv,Ie⟩:∃x,Fs[j]? =ζ x:=⟨_,θ (by have:=Zz.out;omega)⟩
     have hg:=HG.out;rw[Χ (ν.1 rE).1,(ν.1 rE).2,Χ (ν.1 Ie).1,(ν.1 Ie).2] at hg;simp only[List.cons.injEq] at hg;have dQ:=qh hg;have bj:=fun W=>Qz xu xv W
     obtain⟨bs,Vh⟩:=aB (decide (xu=xv));rw[Vh] at bj;have Gbs:=qh Vh;obtain⟨WV,Gb,rfl,AI,AO⟩:=HEu.out.place bM (by decide) (by omega);obtain⟨U1,EB,rfl,Bg,As⟩:=HEv.out.place bM (by decide) (by omega);have HCu:=qh (DP (aN HB.out) AI (AO j xu rE));have HCv:=qh (DP (aN HB.out) Bg (As j xv Ie));clear rE Ie hg AO As AI Bg HG Vh;go_upto_region 14 with fail
     clear cb;have ldu:=cm (i:=1) aQ.out rfl;have ldv:=cm (i:=1) aL.out rfl;refine ay (aO) (by kernel_rfl) ?_;refine aa 0 ?_;refine aa 1 ?_;refine aa 2 ?_;refine aa 3 ?_;refine cV 4 (hy:=nS (by rfl) 67 (.tmp 81) rfl ⟨WV,Gb+j*4,ε⟩ rfl (eC xu) _ HCu.out Tryz.underlying67 rfl (by kernel_rfl)) (h:=?_);refine aa 5 ?_;refine aa 6 ?_;refine aa 7 ?_;refine aa 8 ?_;refine cV 9 (hy:=nS (by rfl) 67 (.tmp 86) rfl ⟨U1,EB+j*4,ε⟩ rfl (eC xv) _ HCv.out Tryz.underlying67 rfl (by kernel_rfl)) (h:=?_);refine cV 10 (hy:=dD (by rfl) (fun w' aC=>dU .neq 67 (.tmp 82) (.tmp 87) 67 rfl rfl rfl (by kernel_rfl) (bj w'))) (h:=?_);refine aF (by kernel_rfl) ?_ _;intro W3 du;have bB:Hid (σ w.heap.size w W3):=qh (ag (aN HB.out) du);have j6:=qh (aQ.out.dr.bl du);have eD:=qh (aL.out.dr.bl du);clear du bj HCu HCv ldu ldv aQ aL HB;cases bs with
     |false=>
      have hq:b=ρ:=by
       rw[←dQ.out];exact decide_eq_false (fun e=>of_decide_eq_false Gbs.out e.1)
      subst hq;clear dQ;go_wp2;go_ret;exact⟨rfl,bB.out⟩
     |true=>
      have xH:Hid (decide (Es.drop (j+1)=Fs.drop (j+1))=b):=qh (by
       rw[←dQ.out,decide_eq_decide];exact⟨fun e=>⟨of_decide_eq_true Gbs.out,e⟩,fun e=>e.2⟩)
      clear dQ;go_wp2;go_roundw
      case rel=>exact⟨j+1,by omega,by go_num,bB,j6,eD,xH⟩
      case measure=>simp[intOf];omega
    ·obtain rfl:m=j:=by omega
     have hq:b=τ:=by
      rw[←HG.out,Jav (by have:=Yr.out;omega),Jav (by have:=Zz.out;omega)];rfl
     subst hq;clear HG;go_wp2;go_ret;exact⟨rfl,HB.out⟩
end Go.Proofs.YtpdpbfmiahjiiaaGreat
