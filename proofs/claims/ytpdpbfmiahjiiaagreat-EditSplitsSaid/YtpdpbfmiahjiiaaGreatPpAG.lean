/- Several texts in one. -/
import Derived.Test.YtpdpbfmiahjiiaaGreatPpAA
import Derived.Test.YtpdpbfmiahjiiaaGreatPpAB
import Derived.Test.YtpdpbfmiahjiiaaGreatPpAC
import Derived.Test.YtpdpbfmiahjiiaaGreatPpAF
set_option linter.unusedSectionVars false
set_option linter.unusedSimpArgs false
set_option linter.unusedVariables false
set_option maxRecDepth 100000
set_option maxHeartbeats 16000000
namespace Go.Proofs.YtpdpbfmiahjiiaaGreat
open Go.RowKit
open _root_.Go.Value renaming slice→γ,string→μ,agg→φ,bool→Β,slice→Ο
open _root_.Go.Obj renaming cells→δ
open _root_.Option renaming none→ε,some→ζ
open _root_.Go.Proofs.Tryz renaming prog→η
open _root_.List renaming getElem?_eq_getElem→θ,getElem?_eq_some_iff→ν,mem_of_getElem?→ω,length_append→Ε,mem_cons→Η,take_of_length_le→Ι,drop_eq_getElem_cons→Χ,drop_eq_nil_of_le→Jav
open _root_.Go.Act renaming put→ξ
open _root_.Go renaming World→ο,Calls→Ζ,Addr→Κ,TypeId→Υ,maxLen→Jap
open _root_.Bool renaming false→ρ,and_eq_true→Jar
open _root_.Go.RowKit renaming Below→σ
open _root_.Nat renaming le_refl→Δ,le_trans→Λ,add_zero→Jac,zero_le→Jas,lt_of_lt_of_le→JaK
open _root_.Go.RowKit.Below renaming refl→Θ
open _root_.Go.Addr renaming add_lit→Ν
open _root_.And renaming intro→Jax
open _root_.Exists renaming intro→JaG
open _root_.Prod.mk renaming injEq→Jba
def rb (W:ο) (r:Rg):Prop:=r.2.2.1≤Jap∧aX W W.heap.size 3 r.1 r.2.1 r.2.2.1 (aA r.2.2.2)∧∀a,r.1=ζ a→∃cs,Whole W a.block 32 cs
theorem rb.bl {W W':ο} {r:Rg} (h:rb W r) (hb:σ W.heap.size W W'):rb W' r:=⟨h.1,h.2.1.bl hb,fun a ha=>(h.2.2 a ha).imp fun cs hc=>hc.bl hb⟩
theorem rb.grown {W W':ο} {r:Rg} {lo k n c:Nat} {T:Υ} {A:Option Κ} {xs:List Value} (h:rb W r) (ho:W.ownsRow lo T k (γ A n c) n xs) (hT:32≠T) (hg:W.grownBy W' (Ο A n c).ownBlock):rb W' r:=by
 have cu:∀a,r.1=ζ a→ζ a.block≠(Ο A n c).ownBlock:=fun a ha=>by
  obtain⟨cs,hw⟩:=h.2.2 a ha;exact ch ho hw hT
 exact⟨h.1,h.2.1.grown hg (fun a ha _=>cu a ha),fun a ha=>(h.2.2 a ha).imp fun cs hc=>hc.grown hg (cu a ha)⟩
theorem rb.cell {W:ο} {r:Rg} {g:Nat} {T:Υ} {cs:List Value} (h:rb W r) (hs:Whole W g T cs) (hT:32≠T) (i:Nat) (u:Value):rb (W.setCell ⟨g,i,ε⟩ u) r:=by
 have cu:∀a,r.1=ζ a→a.block≠g:=fun a ha=>by
  obtain⟨cs,hw⟩:=h.2.2 a ha;exact hw.ne_ hs hT
 exact⟨h.1,h.2.1.far (fun _ a ha=>cu a ha) u,fun a ha=>(h.2.2 a ha).imp fun cs hc=>hc.far (cu a ha) u⟩
theorem rb.of_own {W:ο} {lo n c:Nat} {A:Option Κ} {L:List D} (h:W.ownsRow lo 32 3 (γ A n c) n (aA L)):rb W (A,n,c,L):=by
 refine⟨fO h,aJ h,fun a ha=>?_⟩
 rcases h.2 with⟨h1,h2⟩|⟨g,cap,cur,h1,hb,hg,-⟩
 ·injection h1 with a1
  rw[show(A,n,c,L).1=A from rfl,a1] at ha;cases ha
 ·injection h1 with a1
  rw[show(A,n,c,L).1=A from rfl,a1] at ha;cases ha;exact⟨cur.toList,by show W.heap[g]? =_;rw[hg,Array.toArray_toList]⟩
theorem rb.nil_ (W:ο):rb W (ε,0,0,[]):=⟨Jas _,aX.no _ _ _,fun a ha=>(by cases ha)⟩
def pC (w:ο) (L:List D) (e:Ending) (w':ο):Prop:=
 ∃A c,e=.returned (γ A L.length c)∧rb w' (A,L.length,c,L)∧σ w.heap.size w w'
theorem RJ (A:Option Κ) (n c lo:Nat) (h1:lo≤n) (h2:n≤c):∃X,(∀W,(Instr.slice 57 (γ A n c) (ζ (J (lo:Int))) (ζ (J (n:Int))) (ζ (J (n:Int)))).run η W=.ok (γ X (n - lo) (n - lo)) W)∧
 (∀W B L,aX W B 3 A n c (aA L)→aX W B 3 X (n - lo) (n - lo) (aA (L.drop lo)))∧∀P:Nat→Prop,(∀a,A=ζ a→P a.block)→∀a,X=ζ a→P a.block:=by
 refine⟨if n=lo then A else A.map (·.add (lo*3)),fun W=>?_,fun W B L h=>?_,fun P h a e=>?_⟩
 ·rw[run_slice_lhm W 57 A n c rK .i64 .i64 .i64 lo n n (by omega) (by omega) (by omega) (by omega),sN];simp[sliced,Result.andThen]
 ·have:=h.piece h1 (Δ n) (Δ n) h2
  rwa [Ι (by rw[h.dlen];omega)] at this
 ·split at e
  ·exact h a e
  ·cases A with
   |none=>cases e
   |some a0=>
    cases e;show P (a0.add (lo*3)).block;rw[cJ];exact h a0 rfl
theorem vh (A:Option Κ) (n c:Nat) (Ps:List (List D)) (w:ο) (h:zW w A n Ps) (hn:n≤100) (hm:Ps.flatten.length≤1000000):
 Ζ η 153 #[γ A n c] w (pC w (aS Ps.flatten)):=by
 obtain⟨i0,hi,oX,jL,kd⟩:=info_parts nA;have H:=qh h;clear h;go_enter Tryz.func153,Tryz.ntmps153;go_wp2;go_loopw [3,11] (fun v i wr=>∃k:Nat,k≤n∧i=J k∧Ow w w.heap.size 32 3 v (Ps.take k).flatten.length (aA (Ps.take k).flatten) wr) (fun _ i _=>n - (intOf i).toNat)
 case atStart=>exact⟨0,Jas _,rfl,by simpa [aA] using Ow.nil_ (Θ _ w) (Δ _) (Δ _)⟩
 case round=>
  obtain⟨k,hk,rfl,fz⟩:=hrel;have HO:=qh fz
  by_cases fh:k<n
  ·obtain⟨b,off,A',c',rfl,hb,hc,hr⟩:=(H.out.up (fz.below)).part k fh;have HR:=qh hr;have HF:=qh (JS Ps k (by have:=H.out.len;omega))
   have hle:((Ps.take k).flatten.length+(Ps.getD k []).length)≤1000000:=by
    have:=RI Ps (k+1)
    rw[HF.out,Ε] at this;omega
   clear fz hr;obtain⟨P,gP⟩:=ay (Ps.getD k []);rw[gP] at hc HR HF hle;clear gP
   go_wp2_with (first
    |(at_builtin
      refine fb rfl (.tmp 15) (.tmp 16) _ rfl _ 32 i0 _ 3 24 Tryz.underlying57 hi oX jL kd rfl (by decide) _ _ _ rfl (by exact HO.out) _ _ _ _ _ rfl (by exact HR.out) (eH P) (by unfold Jap;omega) (by omega) ?_;intro v1 w1 fg e8;have mX:=qh fg;clear fg))
   go_roundw
   case rel=>
    refine⟨k+1,by omega,by go_num,?_⟩
    rw[HF.out,Ε,fm];exact mX.out
   case measure=>simp[intOf];omega
  ·have hkn:k=n:=by omega
   have RX:Ps.take k=Ps:=Ι (by have:=H.out.len;omega);rw[RX] at HO;clear fz RX hkn;obtain⟨L,gL⟩:=ay Ps.flatten;rw[gL] at HO hm;have GL:=qh gL;clear gL;obtain⟨A1,c1,hv,Ew⟩:=HO.out.rds;subst hv;have za:∀a,A1=ζ a→∃cs,Whole wr a.block 32 cs:=fun a ha=>(rb.of_own (n:=L.length) (c:=c1) (A:=A1) (L:=L) HO.out.own).2.2 a ha
   have HFR:=qh za;clear za;have HR:=qh Ew;clear Ew;have HB:=qh HO.out.below;clear HO H;obtain⟨W1,rfl⟩:∃x:ο,x=wr:=⟨_,rfl⟩
   go_wp2;go_loopw [6,21] (fun lv i wr=>∃k:Nat,k≤L.length∧i=J k∧lv=J (di L k:Int)∧σ W1.heap.size W1 wr) (fun _ i _=>L.length - (intOf i).toNat)
   case atStart=>exact⟨0,Jas _,rfl,rfl,Θ _ _⟩
   case round=>
    obtain⟨k2,EB,rfl,rfl,cR⟩:=hrel;have Pz:=qh cR
    by_cases T8:k2<L.length
    ·obtain⟨b,off,rfl,hb,hc⟩:=(HR.out.up cR cR.size).darts (by omega);obtain⟨d1,d2,d3⟩:=hc k2 T8;have Qq:=nN L k2;have Mr:di L k2<L.length:=by omega
     obtain⟨e1,e2,e3⟩:=hc (di L k2) Mr;have hs:di L (k2+1)=if p8 (L.getD k2 (0,0,0)) (L.getD (di L k2) (0,0,0))<0 then k2 else di L k2:=rfl
     obtain⟨m,gm⟩:=ay (di L k2);rw[gm] at e1 e2 e3 Qq Mr hs ⊢;obtain⟨x,gx⟩:=ay (L.getD k2 (0,0,0));obtain⟨y,gy⟩:=ay (L.getD m (0,0,0));rw[gx] at d1 d2 d3 hs;rw[gy] at e1 e2 e3 hs;have HOr:=rj x.1 x.2.1 x.2.2 y.1 y.2.1 y.2.2;have ho:mS x.1 x.2.1 x.2.2 y.1 y.2.1 y.2.2=p8 x y:=rfl;obtain⟨ov,uh⟩:=ay (p8 x y);rw[ho,uh] at HOr;rw[uh] at hs;have Na:=qh HOr;have HS:=qh hs;clear hc cR gm gx gy ho uh HOr hs;go_upto_region 11 with fail
     obtain⟨X,gX⟩:=ay (wr.alloc (δ #[J x.1,J x.2.1,J x.2.2] 32));have VJ:σ wr.heap.size wr X:=by rw[←gX];exact ax _ _
     have hX:Whole X wr.heap.size 32 [J x.1,J x.2.1,J x.2.2]:=by rw[←gX];exact Whole.new_ wr _ _
     obtain⟨g,gg⟩:=ay wr.heap.size;rw[gX,gg];rw[gg] at hX VJ;have f0:∀w',Kept aF X.drew w'→w'.cell? ⟨g,0,ε⟩=ζ (J x.1):=fun w' h=>h.nil_cell (hX.cell rfl)
     have f1:∀w',Kept aF X.drew w'→w'.cell? ⟨g,1,ε⟩=ζ (J x.2.1):=fun w' h=>h.nil_cell (hX.cell rfl)
     have f2:∀w',Kept aF X.drew w'→w'.cell? ⟨g,2,ε⟩=ζ (J x.2.2):=fun w' h=>h.nil_cell (hX.cell rfl)
     have f3:∀w',Kept aF X.drew w'→w'.cell? ⟨b,off+m*3,ε⟩=ζ (J y.1):=fun w' h=>h.nil_cell ((VJ.cell (by rw[←gg];exact hb)).trans e1)
     have f4:∀w',Kept aF X.drew w'→w'.cell? ⟨b,off+m*3+1,ε⟩=ζ (J y.2.1):=fun w' h=>h.nil_cell ((VJ.cell (by rw[←gg];exact hb)).trans e2)
     have f5:∀w',Kept aF X.drew w'→w'.cell? ⟨b,off+m*3+2,ε⟩=ζ (J y.2.2):=fun w' h=>h.nil_cell ((VJ.cell (by rw[←gg];exact hb)).trans e3)
     have hE:Hid (σ W1.heap.size W1 X):=Pz.out.trans ((show σ wr.heap.size wr X by rw[gg];exact VJ).mono Pz.out.size);clear hX VJ gX gg d1 d2 d3 e1 e2 e3
     by_cases ho:ov<0
     ·rw[if_pos ho] at HS;refine aw (aF) (by kernel_rfl) ?_;refine ag 0 ?_;refine ag 1 ?_;refine ag 2 ?_;refine ag 3 ?_;refine ag 4 ?_;refine bY 5 (hy:=by apply ck;rfl;rotate_left;intro w' aB;exact Na.out w';intro w';go_simp) (h:=?_);refine ag 6 ?_;refine aD (by kernel_rfl) ?_ _;intro w' aB;have Pv:Hid (σ W1.heap.size W1 w'):=(hE.out.drew).trans (aB.mono (by have:=hE.out.size;simpa using this));clear f0 f1 f2 f3 f4 f5 aB;go_wp2;go_roundw
      case rel=>exact⟨k2+1,by omega,by go_num,by rw[HS.out],Pv.out⟩
      case measure=>simp[intOf];omega
     ·rw[if_neg ho] at HS;refine aw (aF) (by kernel_rfl) ?_;refine ag 0 ?_;refine ag 1 ?_;refine ag 2 ?_;refine ag 3 ?_;refine ag 4 ?_;refine bY 5 (hy:=by apply ck;rfl;rotate_left;intro w' aB;exact Na.out w';intro w';go_simp) (h:=?_);refine ag 6 ?_;refine aD (by kernel_rfl) ?_ _;intro w' aB;have Pv:Hid (σ W1.heap.size W1 w'):=(hE.out.drew).trans (aB.mono (by have:=hE.out.size;simpa using this));clear f0 f1 f2 f3 f4 f5 aB;go_wp2;go_roundw
      case rel=>exact⟨k2+1,by omega,by go_num,by rw[HS.out],Pv.out⟩
      case measure=>simp[intOf];omega
    ·have hkl:k2=L.length:=by omega
     subst hkl;have Qq:=nN L L.length;have ht:aS L=L.drop (di L L.length)++L.take (di L L.length):=rfl;have hm0:0<L.length→di L L.length<L.length:=fun h=>qx L L.length h
     obtain⟨m,gm⟩:=ay (di L L.length);rw[gm] at Qq ht hm0 ⊢;have HT:=qh ht;obtain⟨X1,Dy,lj,hfx⟩:=RJ A1 L.length c1 m Qq HR.out.le;have HFX:=qh (hfx (fun b=>∃cs,Whole W1 b 32 cs) HFR.out);obtain⟨X2,hs2,uN⟩:=Ze A1 L.length c1 m Qq HR.out.le;have RX1:=qh (fun W B=>lj W B L);have RX2:=qh (fun W B=>uN W B L);clear ht gm lj uN cR hfx;go_upto_region 14 with fail
     have hE:Hid (σ W1.heap.size W1 wr.drew):=Pz.out.drew;have RR:=qh (HR.out.up hE.out hE.out.size);refine aw (aF) (by kernel_rfl) ?_;refine ag 0 ?_;refine ag 1 ?_;refine ag 2 ?_;refine ag 3 ?_;refine ag 4 ?_;refine ag 5 ?_;refine ag 6 ?_;refine ag 7 ?_;refine ag 8 ?_;refine ag 9 ?_;refine Kd 10 ?_;intro w' aB
     have HG:∃A3 c3 cT,(Builtin.append_ #[57,57] 57 #[γ X1 (L.length - m) (L.length - m),γ X2 m c1]).run η w'=.ok (γ A3 L.length c3) cT∧rb cT (A3,L.length,c3,L.drop m++L.take m)∧σ w'.heap.size w' cT:=by
      have r1:=RX1.out w' _ (RR.out.up aB aB.size);have r2:=RX2.out w' _ (RR.out.up aB aB.size)
      by_cases h0:m=0
      ·subst h0
       refine⟨X1,L.length,w',?_,?_,Θ _ _⟩
       ·have:=vL (P:=η) w' 57 57 32 i0 Tryz.underlying57 hi X1 X2 (L.length - 0) (L.length - 0) c1 (Δ _)
        simpa using this
       ·refine⟨by show L.length≤Jap;unfold Jap;omega,by simpa using r1,fun a ha=>?_⟩
        obtain⟨cs,hc⟩:=HFX.out a ha;exact⟨cs,(hc.bl hE.out).bl aB⟩
      ·obtain⟨cap,cT,hr,fM,hb⟩:=vJ (P:=η) w' 57 57 32 i0 _ 3 24 Tryz.underlying57 hi oX jL kd rfl (by decide) _ _ X1 X2 (L.length - m) m c1 _ _ r1 r2 (by omega) (by have:=hm0 (by omega);omega) (by unfold Jap;omega) (by omega);obtain⟨A3,c3,hv,sw⟩:=aX.of_own fM;rw[hv] at fM;rw[show L.length - m+m=L.length by omega] at hr hv fM;rw[hv] at hr;rw[←fm] at fM;exact⟨A3,c3,cT,hr,rb.of_own fM,hb⟩
     obtain⟨A3,c3,w3,cj,sw,bC⟩:=HG
     have HG:Hid (∃A c,Ο A3 L.length c3=γ A L.length c∧rb w3 (A,L.length,c,L.drop m++L.take m)∧σ w.heap.size w w3):=by
      have e1:=HB.out;have e2:=hE.out;have h1:σ w.heap.size w w':=(e1.trans (e2.mono e1.size)).trans (aB.mono (Λ e1.size e2.size));exact⟨A3,c3,rfl,sw,h1.trans (bC.mono h1.size)⟩
     refine⟨_,w3,cA rfl rfl rfl cj,Kept.of_below bC,?_⟩
     clear cj sw bC aB;simp only[ξ,aq,ak,ao];refine ag 11 ?_;refine aD (by kernel_rfl) ?_ _;intro w' aB;go_wp2;go_ret;have hG:=HG.out;obtain⟨A3,c3,hv,sw,bC⟩:=hG;have hlen:(aS L).length=L.length:=by rw[HT.out];simp;omega
     refine⟨A3,c3,?_,?_,?_⟩
     ·rw[GL.out,hlen];exact congrArg _ hv
     ·rw[GL.out,hlen,HT.out];exact sw.bl aB
     ·exact bC.trans (aB.mono bC.size)
theorem DK (A:Option Κ) (n c:Nat) (L:List D) (w:ο) (g:Nat) (t:Υ) (hg:Whole w g t [γ A n c]) (hr:aX w w.heap.size 3 A n c (aA L)) (hn:n≤1000000):
 Ζ η 153 #[γ (ζ ⟨g,0,ε⟩) 1 1] w (pC w (aS L)):=by
 have h:=vh (ζ ⟨g,0,ε⟩) 1 1 [L] w (Vb hg hr) (by omega) (by have:=hr.dlen;simp;omega);simpa using h
theorem BU (A A2:Option Κ) (n c n2 c2 g g1:Nat) (t t1:Υ) (L L2:List D) (d:D) (w:ο) (hg:Whole w g t [γ A n c,γ (ζ ⟨g1,0,ε⟩) 1 1,γ A2 n2 c2]) (h1:Whole w g1 t1 (aA [d])) (hr:aX w w.heap.size 3 A n c (aA L)) (yS:aX w w.heap.size 3 A2 n2 c2 (aA L2)) (hn:n+n2≤999999):
 Ζ η 153 #[γ (ζ ⟨g,0,ε⟩) 3 3] w (pC w (aS (L++d::L2))):=by
 have h:=vh (ζ ⟨g,0,ε⟩) 3 3 [L,[d],L2] w (Vf hg hr (aX.whole3 h1) yS) (by omega) (by have:=hr.dlen;have:=yS.dlen;simp;omega);simpa using h
theorem xI (A:Option Κ) (n c:Nat) (L:List D) (a d:D) (w:ο) (h:aX w w.heap.size 3 A n c (aA L)) (hn:n≤999000):
 Ζ η 126 #[γ A n c,φ #[J a.1,J a.2.1,J a.2.2],φ #[J d.1,J d.2.1,J d.2.2]] w (pC w (aS (fo L a d))):=by
 have HI:=qh (fun x W h=>Fb A n c L x W h (by omega));have HT:=qh (fun W g t hg hr=>DK A n c L W g t hg hr (by omega));have H:=qh h;have hl:=h.dlen;obtain⟨W0,bP⟩:=ay ((w.alloc (δ #[J a.1,J a.2.1,J a.2.2] 32)).alloc (δ #[J d.1,J d.2.1,J d.2.2] 32));have kx:σ w.heap.size w W0:=by rw[←bP];exact cG _ _ _
 have J6:Whole W0 w.heap.size 32 (aA [a]):=by rw[←bP];exact(Whole.new_ w _ (aA [a])).alloc _
 have zF:Whole W0 (w.heap.size+1) 32 (aA [d]):=by
  rw[←bP];exact Whole.new2 (cs:=aA [d]) (by simp)
 have B0:=qh kx;have DD:=qh zF;have a0:=J6.cell (i:=0) rfl;have a1:=J6.cell (i:=1) rfl;have a2:=J6.cell (i:=2) rfl;have d0:=zF.cell (i:=0) rfl;have d1:=zF.cell (i:=1) rfl;have d2:=zF.cell (i:=2) rfl;have GW:=qh bP;have DV:=qh (HI.out a);have DR:=qh (HI.out d);have tok:True:=trivial;clear h bP kx J6 zF HI
 by_cases ha:a∈L
 ·obtain⟨i1,i2⟩:=ib ha;rw[i1] at DV;obtain⟨k,gk⟩:=ay (L.idxOf a);rw[gk] at DV i2;have hk:k+1≤n:=by omega
  by_cases hd:d∈L
  ·have e1:fo L a d=L:=by rw[fo,if_neg (fun h=>h.2 hd)]
   obtain⟨j1,j2⟩:=ib hd;rw[j1] at DR;obtain⟨j,gj⟩:=ay (L.idxOf d);rw[gj] at DR;have E1:=qh e1;clear hl e1 ha hd i1 j1 j2 gk gj;go_enter Tryz.func126,Tryz.ntmps126;go_upto_region 1 with fail
   rw[GW.out]
   go_wp2_with (first
    |(go_at_call 144;have _t:=tok;refine(DV.out _ (by exact H.out.up B0.out B0.out.size)).mono ?_;rintro e w2 ⟨rfl,ar⟩;have B2:=qh (B0.out.trans (ar.mono B0.out.size));have D2:=qh (DD.out.below ar);have q0:=D2.out.cell (i:=0) rfl;have q1:=D2.out.cell (i:=1) rfl;have q2:=D2.out.cell (i:=2) rfl;clear ar tok)
    |(go_at_call 144;refine(DR.out _ (by exact H.out.up B2.out B2.out.size)).mono ?_;rintro e w3 ⟨rfl,bC⟩;have B3:=qh (B2.out.trans (bC.mono B2.out.size));clear bC)
    |(go_at_call 153;refine(HT.out _ _ 57 (by exact Whole.new_ _ _ _) (by exact(H.out.up B3.out B3.out.size).up (ax _ _) (by simp))).mono ?_;rintro e w4 ⟨A2,c2,rfl,sw,kv⟩))
   go_ret;rw[E1.out];exact⟨A2,c2,rfl,sw,(B3.out.alloc B3.out.size _).trans (kv.mono (by have:=B3.out.size;simp;omega))⟩
  ·have e1:fo L a d=L.take k++d::L.drop (k+1):=by rw[fo,if_pos ⟨ha,hd⟩,gk]
   rw[j8 hd] at DR;have E1:=qh e1;obtain⟨k1,gk1⟩:=ay (k+1);have jo:IntKind.i64.wrap ((k:Int)+1)=(k1:Int):=(IntWalk.i64_in _ (by omega)).trans (by omega);rw[gk1] at hk E1;obtain⟨X1,Dy,lj⟩:=Ze A n c k (by omega) H.out.le;obtain⟨X2,hs2,uN⟩:=ad5 A n c k1 hk H.out.le;have RX1:=qh (fun W B=>lj W B L);have RX2:=qh (fun W B=>uN W B L);have LA:k≤n:=by omega
   have GK1:=qh gk1;clear hl e1 i1 i2 gk ha hd gk1 lj uN;go_enter Tryz.func126,Tryz.ntmps126;go_upto_region 1 with fail
   rw[GW.out]
   go_upto_region 4 with (first
    |(go_at_call 144;have _t:=tok;refine(DV.out _ (by exact H.out.up B0.out B0.out.size)).mono ?_;rintro e w2 ⟨rfl,ar⟩;have B2:=qh (B0.out.trans (ar.mono B0.out.size));have D2:=qh (DD.out.below ar);have q0:=D2.out.cell (i:=0) rfl;have q1:=D2.out.cell (i:=1) rfl;have q2:=D2.out.cell (i:=2) rfl;clear ar tok)
    |(go_at_call 144;refine(DR.out _ (by exact H.out.up B2.out B2.out.size)).mono ?_;rintro e w3 ⟨rfl,bC⟩;have B3:=qh (B2.out.trans (bC.mono B2.out.size));have D3:=qh (D2.out.below bC);clear bC))
   have f0:∀w',Kept aF w3.drew w'→w'.cell? ⟨w.heap.size+1,0,ε⟩=ζ (J d.1):=fun w' h=>h.nil_cell (D3.out.drew.cell rfl)
   have f1:∀w',Kept aF w3.drew w'→w'.cell? ⟨w.heap.size+1,1,ε⟩=ζ (J d.2.1):=fun w' h=>h.nil_cell (D3.out.drew.cell rfl)
   have f2:∀w',Kept aF w3.drew w'→w'.cell? ⟨w.heap.size+1,2,ε⟩=ζ (J d.2.2):=fun w' h=>h.nil_cell (D3.out.drew.cell rfl)
   have hE:Hid (σ w.heap.size w w3.drew):=B3.out.drew;clear q0 q1 q2 d0 d1 d2 a0 a1 a2;refine aw (aF) (by kernel_rfl) ?_;refine ag 0 ?_;refine ag 1 ?_;refine ag 2 ?_;refine ag 3 ?_;refine ag 5 ?_;refine ag 6 ?_;refine ag 7 ?_;refine ag 8 ?_;refine Kd 4 ?_;intro w' aB;apply JaG;apply JaG;apply Jax
   ·go_simp;exact⟨rfl,rfl⟩
   apply Jax
   ·exact Kept.of_below (ax _ _)
   obtain⟨g1,Ib⟩:=ay w'.heap.size;obtain⟨W1,aO⟩:=ay (w'.alloc (δ #[J d.1,J d.2.1,J d.2.2] 32));have hD1:Hid (Whole W1 g1 32 (aA [d])):=(by rw[←aO,←Ib];exact Whole.new_ w' _ (aA [d]));have hE1:Hid (σ w.heap.size w W1):=(by rw[←aO];exact(hE.out.trans (aB.mono hE.out.size)).alloc (Λ hE.out.size aB.size) _);rw[aO,Ib];clear aO Ib aB;simp only[ξ,aq,ak,ao];refine Kd 9 ?_;intro w' aB;apply JaG;apply JaG;apply Jax
   ·go_simp;exact⟨rfl,rfl⟩
   apply Jax
   ·exact Kept.of_below (ax _ _)
   obtain⟨g2,qS⟩:=ay w'.heap.size;obtain⟨W2,eN⟩:=ay (w'.alloc (δ #[γ X1 k c,γ (ζ ⟨g1,0,ε⟩) 1 1,γ X2 (n - k1) (c - k1)] 57));have hD2:Hid (Whole W2 g1 32 (aA [d])):=(by rw[←eN];exact(hD1.out.below aB).alloc _);have hP2:Hid (Whole W2 g2 57 [γ X1 k c,γ (ζ ⟨g1,0,ε⟩) 1 1,γ X2 (n - k1) (c - k1)]):=(by rw[←eN,←qS];exact Whole.new_ w' _ [γ X1 k c,γ (ζ ⟨g1,0,ε⟩) 1 1,γ X2 (n - k1) (c - k1)]);have Pv:Hid (σ w.heap.size w W2):=(by rw[←eN];exact(hE1.out.trans (aB.mono hE1.out.size)).alloc (Λ hE1.out.size aB.size) _);rw[eN,qS];clear eN qS aB;simp only[ξ,aq,ak,ao];refine sE 10 ?_;intro w' aB;have ZR:=Pv.out.trans (aB.mono Pv.out.size);have r:=H.out.up ZR ZR.size
   refine(BU X1 X2 k c (n - k1) (c - k1) g2 g1 _ _ (L.take k) (L.drop k1) d w' (hP2.out.below aB) (hD2.out.below aB) (RX1.out _ _ r) (RX2.out _ _ r) (by have:=GK1.out;omega)).mono ?_
   rintro e w5 ⟨A3,c3,rfl,sw,bC⟩;have HG:Hid (∃A3' c3',Ending.returned (Ο A3 (aS (L.take k++d::L.drop k1)).length c3)=.returned (.slice A3' (aS (L.take k++d::L.drop k1)).length c3')∧rb w5 (A3',(aS (L.take k++d::L.drop k1)).length,c3',(aS (L.take k++d::L.drop k1)))∧σ w.heap.size w w5):=⟨A3,c3,rfl,sw,ZR.trans (bC.mono ZR.size)⟩
   refine⟨_,rfl,Kept.of_below bC,?_⟩
   clear sw bC aB ZR r;simp only[ξ,aq,ak,ao];refine ag 11 ?_;refine aD (by kernel_rfl) ?_ _;intro w' aB;go_wp2;go_ret;obtain⟨A3,c3,hv,sw,bC⟩:=HG.out;rw[E1.out];exact⟨A3,c3,hv,sw.bl aB,bC.trans (aB.mono bC.size)⟩
 ·have e1:fo L a d=L:=by rw[fo,if_neg (fun h=>ha h.1)]
  rw[j8 ha] at DV;have E1:=qh e1;clear hl e1 ha;go_enter Tryz.func126,Tryz.ntmps126;go_upto_region 1 with fail
  rw[GW.out]
  go_wp2_with (first
   |(go_at_call 144;have _t:=tok;refine(DV.out _ (by exact H.out.up B0.out B0.out.size)).mono ?_;rintro e w2 ⟨rfl,ar⟩;have B2:=qh (B0.out.trans (ar.mono B0.out.size));clear ar tok)
   |(go_at_call 153;refine(HT.out _ _ 57 (by exact Whole.new_ _ _ _) (by exact(H.out.up B2.out B2.out.size).up (ax _ _) (by simp))).mono ?_;rintro e w4 ⟨A2,c2,rfl,sw,kv⟩))
  go_ret;rw[E1.out];exact⟨A2,c2,rfl,sw,(B2.out.alloc B2.out.size _).trans (kv.mono (by have:=B2.out.size;simp;omega))⟩
theorem fJ (A:Option Κ) (n c:Nat) (Vs:List VC) (B:Option Κ) (m k:Nat) (Es:List EC) (x1 x2:Int) (w:ο) (h:aX w w.heap.size 5 A n c (aj vC Vs)) (hn:n≤140737488355328):
 Ζ η 27 #[φ #[γ A n c,γ B m k],φ #[J x1,J x2]] w fun e w'=>e=.returned (.tuple #[φ (vC (bu Vs (x1,x2)).1).toArray,Β (bu Vs (x1,x2)).2])∧σ w.heap.size w w':=by
 have H:=qh h;have Hl:=qh (h.rlen aQ (by decide));obtain⟨⟨r,ok⟩,gr⟩:∃z,bu Vs (x1,x2)=z:=⟨_,rfl⟩
 rw[gr];have HG:=qh gr;clear h gr;go_enter Tryz.func27,Tryz.ntmps27;go_wp2;obtain⟨W0,b0,b1,b2,bP,bK,cX,dN,aN,aI,aV,a8,xj,DA,kQ,EH,jK,Gb2,bz,mj,oK,km⟩:=jN w 25 [γ A n c,γ B m k] 30 [J x1,J x2] 59 [J 0,J 0,γ ε 0 0,μ {data:=#[]},J 0];rw[bP,dN,cX,bK];clear bP bK cX dN;go_loopw [6] (fun si wr=>∃j:Nat,j≤n∧si=J j∧Hid (σ w.heap.size w wr)∧Hid (Whole wr b0 25 [γ A n c,γ B m k])∧Hid (Whole wr b1 30 [J x1,J x2])∧Hid (Whole wr b2 59 [J 0,J 0,γ ε 0 0,μ {data:=#[]},J 0])∧Hid (bu (Vs.drop j) (x1,x2)=(r,ok))) (fun si _=>n - (intOf si).toNat)
 case atStart=>exact⟨0,by omega,rfl,a8,aN,aI,aV,HG⟩
 case round=>
  clear a8 aN aI aV HG;obtain⟨j,hj,rfl,HB,aN,aI,aV,HG⟩:=hrel;obtain⟨wo,ec⟩:=ay wr;rw[ec] at HB aN aI aV ⊢;clear ec
  by_cases o4:j<n
  ·obtain⟨x,hx⟩:∃x,Vs[j]? =ζ x:=⟨_,θ (by have:=Hl.out;omega)⟩
   have wE:Vs.drop j=x::Vs.drop (j+1):=by
    rw[Χ (ν.1 hx).1,(ν.1 hx).2]
   have qW:=HG.out;rw[wE] at qW;have fZ:=qh qW;obtain⟨bb,off,rfl,bD,bM⟩:=H.out.place aQ (by decide) (by omega);have VP:Hid (bb<wo.heap.size):=qh (JaK bD HB.out.size);have cR:=HB.out;have q0:=bM j _ hx 0 _ rfl;have q1:=bM j _ hx 1 _ rfl;have q2:=bM j _ hx 2 _ rfl;have q3:=bM j _ hx 3 _ rfl;have q4:=bM j _ hx 4 _ rfl;simp only[Ν,Jac] at q0 q1 q2 q3 q4;have l0:=(cR.cell (p:=⟨bb,off+j*5,ε⟩) bD).trans q0;have l1:=(cR.cell (p:=⟨bb,off+j*5+1,ε⟩) bD).trans q1;have l2:=(cR.cell (p:=⟨bb,off+j*5+2,ε⟩) bD).trans q2;have l3:=(cR.cell (p:=⟨bb,off+j*5+3,ε⟩) bD).trans q3;have l4:=(cR.cell (p:=⟨bb,off+j*5+4,ε⟩) bD).trans q4;clear cR q0 q1 q2 q3 q4;obtain⟨⟨i1,i2⟩,⟨rA,rn,rc,rL⟩,lb,at_⟩:=x;have HE:=qh (Jax l0 (Jax l1 (Jax l2 (Jax l3 l4))));have cb:=aN.out.cell (i:=0) rfl;clear hx wE qW bM bD HG;have U5:=l0;go_upto_region 4 with fail
   clear cb U5;have Xg:=dm (i:=0) aN.out rfl;have Z9:=dm (i:=0) aI.out rfl;have XH:=dm (i:=1) aI.out rfl;have lde:=bW l0;have ldf:=bW l1;clear l0 l1 l2 l3 l4;have heq:=fun W=>Oz i1 i2 x1 x2 W
   obtain⟨bq,KK⟩:=ay ((i1==x1 && i2==x2));rw[KK] at heq;have Wu:=qh KK;clear KK;refine aw (aF) (by kernel_rfl) ?_;refine ag 0 ?_;refine ag 1 ?_;refine ag 2 ?_;refine ag 3 ?_;refine ag 4 ?_;refine ag 5 ?_;refine ag 6 ?_;refine ag 7 ?_;refine aD (by kernel_rfl) ?_ _;intro W3 fu;have qY:=qh (aN.out.dr.bl fu);have nh:=qh (aI.out.dr.bl fu);have iJ:=qh (aV.out.dr.bl fu);have sO:Hid (σ wo.heap.size wo W3):=qh (af (aL (Θ _ _)) fu);have cI:=qh (af HB.out sO.out);clear fu Xg Z9 XH lde ldf HB aN aI aV heq;cases bq with
   |true=>
    have hq:=Wu.out;rw[Jar,beq_iff_eq,beq_iff_eq] at hq;have hg:=fZ.out;rw[bu,wB _ _ _ _ _ (by rw[hq.1,hq.2])] at hg;injection hg with hg1 qW
    subst hg1 qW;obtain⟨l0,l1,l2,l3,l4⟩:=HE.out;have Lm:=sO.out;have Bw:=VP.out;have cb:=qY.out.cell (i:=0) rfl;have f0:=iJ.out.free 0;have k0:=iJ.out.cell (i:=0) rfl;have y0:=(Lm.cell (p:=⟨bb,off+j*5,ε⟩) Bw).trans l0;have f1:=iJ.out.free 1;have k1:=iJ.out.cell (i:=1) rfl;have y1:=(Lm.cell (p:=⟨bb,off+j*5+1,ε⟩) Bw).trans l1;have f2:=iJ.out.free 2;have k2:=iJ.out.cell (i:=2) rfl;have y2:=(Lm.cell (p:=⟨bb,off+j*5+2,ε⟩) Bw).trans l2;have f3:=iJ.out.free 3;have k3:=iJ.out.cell (i:=3) rfl;have y3:=(Lm.cell (p:=⟨bb,off+j*5+3,ε⟩) Bw).trans l3;have f4:=iJ.out.free 4;have k4:=iJ.out.cell (i:=4) rfl;have y4:=(Lm.cell (p:=⟨bb,off+j*5+4,ε⟩) Bw).trans l4;have HY:=qh (((((iJ.out.set_ 0 (J i1)).set_ 1 (J i2)).set_ 2 (γ rA rn rc)).set_ 3 (μ lb)).set_ 4 (J at_));have Dv:=qh (((((cI.out.setCell (p:=⟨b2,0,ε⟩) bz.out (J i1)).setCell (p:=⟨b2,1,ε⟩) bz.out (J i2)).setCell (p:=⟨b2,2,ε⟩) bz.out (γ rA rn rc)).setCell (p:=⟨b2,3,ε⟩) bz.out (μ lb)).setCell (p:=⟨b2,4,ε⟩) bz.out (J at_));clear iJ fZ cI hq l0 l1 l2 l3 l4 HE Lm sO;go_wp2;exact aG rfl b2 rfl rfl HY.out Tryz.underlying59 rfl (by kernel_rfl) rfl ⟨rfl,Dv.out⟩
   |false=>
    have hg:=fZ.out
    rw[bu,BX _ _ _ _ _ (fun e=>by
     have e1:i1=x1:=congrArg Prod.fst e;have e2:i2=x2:=congrArg Prod.snd e
     have:=Wu.out
     rw[e1,e2] at this;simp at this)] at hg
    have Pu:=qh hg;clear hg fZ HE sO;go_wp2;go_roundw
    case rel=>exact⟨j+1,by omega,by go_num,cI,qY,nh,iJ,Pu⟩
    case measure=>simp[intOf];omega
  ·obtain rfl:n=j:=by omega
   have hg:=HG.out;rw[Jav (by have:=Hl.out;omega)] at hg;replace hg:(zV,ρ)=(r,ok):=hg;injection hg with hg1 qW
   subst hg1 qW;have cb:=aN.out.cell (i:=0) rfl;have f0:=aV.out.free 0;have k0:=aV.out.cell (i:=0) rfl;have f1:=aV.out.free 1;have k1:=aV.out.cell (i:=1) rfl;have f2:=aV.out.free 2;have k2:=aV.out.cell (i:=2) rfl;have f3:=aV.out.free 3;have k3:=aV.out.cell (i:=3) rfl;have f4:=aV.out.free 4;have k4:=aV.out.cell (i:=4) rfl;have HY:=qh (((((aV.out.set_ 0 (J 0)).set_ 1 (J 0)).set_ 2 (γ ε 0 0)).set_ 3 (μ {data:=#[]})).set_ 4 (J 0));have Dv:=qh (((((HB.out.setCell (p:=⟨b2,0,ε⟩) bz.out (J 0)).setCell (p:=⟨b2,1,ε⟩) bz.out (J 0)).setCell (p:=⟨b2,2,ε⟩) bz.out (γ ε 0 0)).setCell (p:=⟨b2,3,ε⟩) bz.out (μ {data:=#[]})).setCell (p:=⟨b2,4,ε⟩) bz.out (J 0));clear HG aV;go_wp2;exact aG rfl b2 rfl rfl HY.out Tryz.underlying59 rfl (by kernel_rfl) rfl ⟨rfl,Dv.out⟩
theorem uC (A:Option Κ) (n c:Nat) (Vs:List VC) (B:Option Κ) (m k:Nat) (Es:List EC) (x1 x2:Int) (w:ο) (h:aX w w.heap.size 4 B m k (aj eC Es)) (hn:m≤140737488355328):
 Ζ η 30 #[φ #[γ A n c,γ B m k],φ #[J x1,J x2]] w fun e w'=>e=.returned (.tuple #[φ (eC (iw Es (x1,x2)).1).toArray,Β (iw Es (x1,x2)).2])∧σ w.heap.size w w':=by
 have H:=qh h;have Hl:=qh (h.rlen bF (by decide));obtain⟨⟨r,ok⟩,gr⟩:∃z,iw Es (x1,x2)=z:=⟨_,rfl⟩
 rw[gr];have HG:=qh gr;clear h gr;go_enter Tryz.func30,Tryz.ntmps30;go_wp2;obtain⟨W0,b0,b1,b2,bP,bK,cX,dN,aN,aI,aV,a8,xj,DA,kQ,EH,jK,Gb2,bz,mj,oK,km⟩:=jN w 25 [γ A n c,γ B m k] 30 [J x1,J x2] 67 [J 0,J 0,μ {data:=#[]},J 0];rw[bP,dN,cX,bK];clear bP bK cX dN;go_loopw [6] (fun si wr=>∃j:Nat,j≤m∧si=J j∧Hid (σ w.heap.size w wr)∧Hid (Whole wr b0 25 [γ A n c,γ B m k])∧Hid (Whole wr b1 30 [J x1,J x2])∧Hid (Whole wr b2 67 [J 0,J 0,μ {data:=#[]},J 0])∧Hid (iw (Es.drop j) (x1,x2)=(r,ok))) (fun si _=>m - (intOf si).toNat)
 case atStart=>exact⟨0,by omega,rfl,a8,aN,aI,aV,HG⟩
 case round=>
  clear a8 aN aI aV HG;obtain⟨j,hj,rfl,HB,aN,aI,aV,HG⟩:=hrel;obtain⟨wo,ec⟩:=ay wr;rw[ec] at HB aN aI aV ⊢;clear ec
  by_cases o4:j<m
  ·obtain⟨x,hx⟩:∃x,Es[j]? =ζ x:=⟨_,θ (by have:=Hl.out;omega)⟩
   have wE:Es.drop j=x::Es.drop (j+1):=by
    rw[Χ (ν.1 hx).1,(ν.1 hx).2]
   have qW:=HG.out;rw[wE] at qW;have fZ:=qh qW;obtain⟨bb,off,rfl,bD,bM⟩:=H.out.place bF (by decide) (by omega);have VP:Hid (bb<wo.heap.size):=qh (JaK bD HB.out.size);have cR:=HB.out;have q0:=bM j _ hx 0 _ rfl;have q1:=bM j _ hx 1 _ rfl;have q2:=bM j _ hx 2 _ rfl;have q3:=bM j _ hx 3 _ rfl;simp only[Ν,Jac] at q0 q1 q2 q3;have l0:=(cR.cell (p:=⟨bb,off+j*4,ε⟩) bD).trans q0;have l1:=(cR.cell (p:=⟨bb,off+j*4+1,ε⟩) bD).trans q1;have l2:=(cR.cell (p:=⟨bb,off+j*4+2,ε⟩) bD).trans q2;have l3:=(cR.cell (p:=⟨bb,off+j*4+3,ε⟩) bD).trans q3;clear cR q0 q1 q2 q3;obtain⟨⟨i1,i2⟩,lb,at_⟩:=x;have HE:=qh (Jax l0 (Jax l1 (Jax l2 l3)));have cb:=aN.out.cell (i:=1) rfl;clear hx wE qW bM bD HG;have U5:=l0;go_upto_region 4 with fail
   clear cb U5;have Xg:=dm (i:=1) aN.out rfl;have Z9:=dm (i:=0) aI.out rfl;have XH:=dm (i:=1) aI.out rfl;have lde:=bW l0;have ldf:=bW l1;clear l0 l1 l2 l3;have heq:=fun W=>Oz i1 i2 x1 x2 W
   obtain⟨bq,KK⟩:=ay ((i1==x1 && i2==x2));rw[KK] at heq;have Wu:=qh KK;clear KK;refine aw (aF) (by kernel_rfl) ?_;refine ag 0 ?_;refine ag 1 ?_;refine ag 2 ?_;refine ag 3 ?_;refine ag 4 ?_;refine ag 5 ?_;refine ag 6 ?_;refine ag 7 ?_;refine aD (by kernel_rfl) ?_ _;intro W3 fu;have qY:=qh (aN.out.dr.bl fu);have nh:=qh (aI.out.dr.bl fu);have iJ:=qh (aV.out.dr.bl fu);have sO:Hid (σ wo.heap.size wo W3):=qh (af (aL (Θ _ _)) fu);have cI:=qh (af HB.out sO.out);clear fu Xg Z9 XH lde ldf HB aN aI aV heq;cases bq with
   |true=>
    have hq:=Wu.out;rw[Jar,beq_iff_eq,beq_iff_eq] at hq;have hg:=fZ.out;rw[iw,wB _ _ _ _ _ (by rw[hq.1,hq.2])] at hg;injection hg with hg1 qW
    subst hg1 qW;obtain⟨l0,l1,l2,l3⟩:=HE.out;have Lm:=sO.out;have Bw:=VP.out;have cb:=qY.out.cell (i:=1) rfl;have f0:=iJ.out.free 0;have k0:=iJ.out.cell (i:=0) rfl;have y0:=(Lm.cell (p:=⟨bb,off+j*4,ε⟩) Bw).trans l0;have f1:=iJ.out.free 1;have k1:=iJ.out.cell (i:=1) rfl;have y1:=(Lm.cell (p:=⟨bb,off+j*4+1,ε⟩) Bw).trans l1;have f2:=iJ.out.free 2;have k2:=iJ.out.cell (i:=2) rfl;have y2:=(Lm.cell (p:=⟨bb,off+j*4+2,ε⟩) Bw).trans l2;have f3:=iJ.out.free 3;have k3:=iJ.out.cell (i:=3) rfl;have y3:=(Lm.cell (p:=⟨bb,off+j*4+3,ε⟩) Bw).trans l3;have HY:=qh ((((iJ.out.set_ 0 (J i1)).set_ 1 (J i2)).set_ 2 (μ lb)).set_ 3 (J at_));have Dv:=qh ((((cI.out.setCell (p:=⟨b2,0,ε⟩) bz.out (J i1)).setCell (p:=⟨b2,1,ε⟩) bz.out (J i2)).setCell (p:=⟨b2,2,ε⟩) bz.out (μ lb)).setCell (p:=⟨b2,3,ε⟩) bz.out (J at_));clear iJ fZ cI hq l0 l1 l2 l3 HE Lm sO;go_wp2;exact aG rfl b2 rfl rfl HY.out Tryz.underlying67 rfl (by kernel_rfl) rfl ⟨rfl,Dv.out⟩
   |false=>
    have hg:=fZ.out
    rw[iw,BX _ _ _ _ _ (fun e=>by
     have e1:i1=x1:=congrArg Prod.fst e;have e2:i2=x2:=congrArg Prod.snd e
     have:=Wu.out
     rw[e1,e2] at this;simp at this)] at hg
    have Pu:=qh hg;clear hg fZ HE sO;go_wp2;go_roundw
    case rel=>exact⟨j+1,by omega,by go_num,cI,qY,nh,iJ,Pu⟩
    case measure=>simp[intOf];omega
  ·obtain rfl:m=j:=by omega
   have hg:=HG.out;rw[Jav (by have:=Hl.out;omega)] at hg;replace hg:(zE,ρ)=(r,ok):=hg;injection hg with hg1 qW
   subst hg1 qW;have cb:=aN.out.cell (i:=1) rfl;have f0:=aV.out.free 0;have k0:=aV.out.cell (i:=0) rfl;have f1:=aV.out.free 1;have k1:=aV.out.cell (i:=1) rfl;have f2:=aV.out.free 2;have k2:=aV.out.cell (i:=2) rfl;have f3:=aV.out.free 3;have k3:=aV.out.cell (i:=3) rfl;have HY:=qh ((((aV.out.set_ 0 (J 0)).set_ 1 (J 0)).set_ 2 (μ {data:=#[]})).set_ 3 (J 0));have Dv:=qh ((((HB.out.setCell (p:=⟨b2,0,ε⟩) bz.out (J 0)).setCell (p:=⟨b2,1,ε⟩) bz.out (J 0)).setCell (p:=⟨b2,2,ε⟩) bz.out (μ {data:=#[]})).setCell (p:=⟨b2,3,ε⟩) bz.out (J 0));clear HG aV;go_wp2;exact aG rfl b2 rfl rfl HY.out Tryz.underlying67 rfl (by kernel_rfl) rfl ⟨rfl,Dv.out⟩
theorem oN (A:Option Κ) (n c:Nat) (Vs:List VC) (B:Option Κ) (m k:Nat) (Es:List EC) (x1 x2 x3:Int) (w:ο) (h:aR w A n c Vs B m k Es) (hn:n≤140737488355328) (hr:∀y∈Vs,y.2.1.2.1≤5864062014634):
 Ζ η 29 #[φ #[γ A n c,γ B m k],φ #[J x1,J x2,J x3]] w fun e w'=>
  e=.returned (.tuple #[φ #[J (kj Vs (x1,x2,x3)).1.1,J (kj Vs (x1,x2,x3)).1.2],Β (kj Vs (x1,x2,x3)).2])∧σ w.heap.size w w':=by
 have H:=qh h.v;have JZ:=qh h.r;have YI:=qh hr;have Hl:=qh (h.v.rlen aQ (by decide));obtain⟨⟨⟨r1,r2⟩,r3⟩,gr⟩:∃z,kj Vs (x1,x2,x3)=z:=⟨_,rfl⟩
 rw[gr];have HG:=qh gr;clear h hr gr;go_enter Tryz.func29,Tryz.ntmps29;go_wp2;obtain⟨W0,b0,b1,b2,bP,bK,cX,dN,aN,aI,aV,a8,xj,DA,kQ,EH,jK,Gb2,bz,mj,oK,km⟩:=jN w 25 [γ A n c,γ B m k] 32 [J x1,J x2,J x3] 30 [J 0,J 0];rw[bP,dN,cX,bK];clear bP bK cX dN;go_loopw [6] (fun si wr=>∃j:Nat,j≤n∧si=J j∧Hid (σ w.heap.size w wr)∧Hid (Whole wr b0 25 [γ A n c,γ B m k])∧Hid (Whole wr b1 32 [J x1,J x2,J x3])∧Hid (Whole wr b2 30 [J 0,J 0])∧Hid (kj (Vs.drop j) (x1,x2,x3)=((r1,r2),r3))) (fun si _=>n - (intOf si).toNat)
 case atStart=>exact⟨0,by omega,rfl,a8,aN,aI,aV,HG⟩
 case round=>
  clear a8 aN aI aV HG;obtain⟨j,hj,rfl,HB,aN,aI,aV,HG⟩:=hrel;obtain⟨wo,ec⟩:=ay wr;rw[ec] at HB aN aI aV ⊢;clear ec
  by_cases o4:j<n
  ·obtain⟨x,hx⟩:∃x,Vs[j]? =ζ x:=⟨_,θ (by have:=Hl.out;omega)⟩
   have wE:Vs.drop j=x::Vs.drop (j+1):=by
    rw[Χ (ν.1 hx).1,(ν.1 hx).2]
   have qW:=HG.out;rw[wE] at qW;have fZ:=qh qW;have fp:=JZ.out x (ω hx);have sK:=YI.out x (ω hx);obtain⟨bb,off,rfl,bD,bM⟩:=H.out.place aQ (by decide) (by omega);have VP:Hid (bb<wo.heap.size):=qh (JaK bD HB.out.size);have cR:=HB.out;have q0:=bM j _ hx 0 _ rfl;have q1:=bM j _ hx 1 _ rfl;have q2:=bM j _ hx 2 _ rfl;have q3:=bM j _ hx 3 _ rfl;have q4:=bM j _ hx 4 _ rfl;simp only[Ν,Jac] at q0 q1 q2 q3 q4;have l0:=(cR.cell (p:=⟨bb,off+j*5,ε⟩) bD).trans q0;have l1:=(cR.cell (p:=⟨bb,off+j*5+1,ε⟩) bD).trans q1;have l2:=(cR.cell (p:=⟨bb,off+j*5+2,ε⟩) bD).trans q2;have l3:=(cR.cell (p:=⟨bb,off+j*5+3,ε⟩) bD).trans q3;have l4:=(cR.cell (p:=⟨bb,off+j*5+4,ε⟩) bD).trans q4;clear cR q0 q1 q2 q3 q4;obtain⟨⟨i1,i2⟩,⟨rA,rn,rc,rL⟩,lb,at_⟩:=x;have hR:aX w w.heap.size 3 rA rn rc (aA rL):=fp.2;replace sK:rn≤5864062014634:=sK
   have hI:∀w',Kept aF wo.drew w'→Ζ η 33 #[γ rA rn rc,φ #[J x1,J x2,J x3]] w' fun e cT=>e=.returned (J (iM rL (x1,x2,x3)))∧σ w'.heap.size w' cT:=
    fun w' hk=>gZ rA rn rc rL (x1,x2,x3) w' ((hR.bl (aL HB.out)).bl (hk.below (Δ _) (fun _ _ h=>h))) (by omega)
   have HI:=qh hI;have HE:=qh (Jax l0 l1);have cb:=aN.out.cell (i:=0) rfl;clear hx wE qW bM bD HG fp hR hI l0 l1 l3 l4;obtain⟨ix,gix⟩:=ay (iM rL (x1,x2,x3));rw[gix] at HI;have Gix:=qh gix;clear gix;go_upto_region 4 with fail
   clear cb;have Xg:=dm (i:=0) aN.out rfl;have Z9:=dm (i:=0) aI.out rfl;have XH:=dm (i:=1) aI.out rfl;have ldz:=dm (i:=2) aI.out rfl;have ldr:=bW l2;clear l2;refine aw (aF) (by kernel_rfl) ?_;refine ag 0 ?_;refine ag 1 ?_;refine ag 2 ?_;refine ag 3 ?_;refine ag 4 ?_;refine ag 5 ?_;refine ag 6 ?_;refine bY 7 (hy:=by apply ck;rfl;rotate_left;intro w' aB;exact HI.out w' aB;intro w';go_simp) (h:=?_);refine ag 8 ?_;refine aD (by kernel_rfl) ?_ _;intro W3 fu;have qY:=qh (aN.out.dr.bl fu);have nh:=qh (aI.out.dr.bl fu);have iJ:=qh (aV.out.dr.bl fu);have sO:Hid (σ wo.heap.size wo W3):=qh (af (aL (Θ _ _)) fu);have cI:=qh (af HB.out sO.out);clear fu Xg Z9 XH ldz ldr HB aN aI aV HI
   by_cases kW:(x1,x2,x3)∈rL
   ·have e1:iM rL (x1,x2,x3)=(rL.idxOf (x1,x2,x3):Int):=by rw[iM,if_pos kW]
    have h0:0≤ix:=by rw[←Gix.out,e1];omega
    have hG:=fZ.out;rw[G6 _ _ _ kW] at hG;simp only[Jba] at hG;obtain⟨⟨rfl,rfl⟩,rfl⟩:=hG;obtain⟨l0,l1⟩:=HE.out;have y0:=(sO.out.cell (p:=⟨bb,off+j*5,ε⟩) VP.out).trans l0;have y1:=(sO.out.cell (p:=⟨bb,off+j*5+1,ε⟩) VP.out).trans l1;have cb:=qY.out.cell (i:=0) rfl;have f0:=iJ.out.free 0;have f1:=iJ.out.free 1;have k0:=iJ.out.cell (i:=0) rfl;have k1:=iJ.out.cell (i:=1) rfl;have HY:=qh ((iJ.out.set_ 0 (J i1)).set_ 1 (J i2));have Dv:=qh ((cI.out.setCell (p:=⟨b2,0,ε⟩) bz.out (J i1)).setCell (p:=⟨b2,1,ε⟩) bz.out (J i2));clear iJ fZ cI HE sO l0 l1;go_wp2;exact aG rfl b2 rfl rfl HY.out Tryz.underlying30 rfl (by kernel_rfl) rfl ⟨rfl,Dv.out⟩
   ·have h0:¬0≤ix:=by rw[←Gix.out,show iM rL (x1,x2,x3)= -1 by rw[iM,if_neg kW]];omega
    have hG:=fZ.out;rw[Oc _ _ _ kW] at hG;have Pu:=qh hG;clear hG fZ HE sO;go_wp2;go_roundw
    case rel=>exact⟨j+1,by omega,by go_num,cI,qY,nh,iJ,Pu⟩
    case measure=>simp[intOf];omega
  ·obtain rfl:n=j:=by omega
   have hG:=HG.out;rw[Jav (by have:=Hl.out;omega)] at hG;replace hG:(((0:Int),(0:Int)),ρ)=((r1,r2),r3):=hG;simp only[Jba] at hG;obtain⟨⟨rfl,rfl⟩,rfl⟩:=hG;have cb:=aN.out.cell (i:=0) rfl;have f0:=aV.out.free 0;have f1:=aV.out.free 1;have k0:=aV.out.cell (i:=0) rfl;have k1:=aV.out.cell (i:=1) rfl;have HY:=qh ((aV.out.set_ 0 (J 0)).set_ 1 (J 0));have Dv:=qh ((HB.out.setCell (p:=⟨b2,0,ε⟩) bz.out (J 0)).setCell (p:=⟨b2,1,ε⟩) bz.out (J 0));clear HG aV;go_wp2;exact aG rfl b2 rfl rfl HY.out Tryz.underlying30 rfl (by kernel_rfl) rfl ⟨rfl,Dv.out⟩
theorem TD (x y:Int × Int) (W:ο):(binOp .neq 30 (φ (idC x).toArray) (φ (idC y).toArray)).run η W=.ok (Β (!decide (x=y))) W:=by
 obtain⟨a1,a2⟩:=x;obtain⟨b1,b2⟩:=y
 by_cases h1:a1=b1<;>by_cases h2:a2=b2<;>simp[go_sem,idC,h1,h2]
def Mz (d:D):Bool:=decide (0≤d.2.2) && decide (d.2.2≤1)
def Gv (Es:List EC) (d:D):Bool:=(iw Es (d.1,d.2.1)).2 && Mz d
theorem xZ {d:D} {S:List D} (h:S.Nodup):(yK d S).Nodup:=by
 unfold yK;split
 ·exact h
 ·rename_i hn;exact List.nodup_cons.2 ⟨hn,h⟩
theorem DN {d x:D} {S:List D}:x∈yK d S↔x=d∨x∈S:=by
 unfold yK;split
 ·rename_i hm;constructor
  ·exact .inr
  ·rintro (rfl|h)
   ·exact hm
   ·exact h
 ·exact Η
theorem ux:∀(Es:List EC) (S:List D),S.Nodup→(Ml Es S).Nodup
 |[],S,h=>h
 |e::r,S,h=>ux r _ (xZ (xZ h))
theorem qE:∀(Es:List EC) (S:List D) (x:D),x∈Ml Es S↔x∈S∨∃e∈Es,x=(e.1.1,e.1.2,0)∨x=(e.1.1,e.1.2,1)
 |[],S,x=>by simp[Ml]
 |e::r,S,x=>by
  rw[Ml,qE r,DN,DN];simp only[Η,exists_eq_or_imp];constructor
  ·rintro ((h|h|h)|h)
   ·exact .inr (.inl (.inr h))
   ·exact .inr (.inl (.inl h))
   ·exact .inl h
   ·exact .inr (.inr h)
  ·rintro (h|(h|h)|h)
   ·exact .inl (.inr (.inr h))
   ·exact .inl (.inr (.inl h))
   ·exact .inl (.inl h)
   ·exact .inr h
theorem nV:∀(rs S:List D),Em S rs=true↔rs.Perm S
 |[],S=>by
  simp only[Em,decide_eq_true_eq];constructor
  ·intro h;rw[List.eq_nil_of_length_eq_zero h]
  ·intro h;rw[←h.length_eq];rfl
 |x::r,S=>by
  rw[Em]
  by_cases h:x∈S
  ·rw[if_pos h,nV r (S.erase x),List.cons_perm_iff_perm_erase];exact⟨fun k=>⟨h,k⟩,fun k=>k.2⟩
  ·rw[if_neg h];constructor
   ·intro k;cases k
   ·intro k;exact absurd (k.mem_iff.1 (List.mem_cons_self ..)) h
theorem KI (Es:List EC) (x:Int × Int):(iw Es x).2=true↔∃e∈Es,e.1=x:=by
 unfold iw Jp;split
 ·rename_i v h;have h1:=List.find?_some h;have h2:=List.mem_of_find?_eq_some h;exact⟨fun _=>⟨v,h2,by simpa using h1⟩,fun _=>rfl⟩
 ·rename_i h;rw[List.find?_eq_none] at h;constructor
  ·intro k;cases k
  ·rintro⟨e,he,rfl⟩;exact absurd (by simp) (h e he)
theorem FH (Es:List EC) (d:D):Gv Es d=true↔d∈Ml Es []:=by
 obtain⟨a,b,c⟩:=d;rw[qE,Gv,Jar,KI];unfold Mz;simp only[Jar,decide_eq_true_eq,List.not_mem_nil,false_or,Jba];constructor
 ·rintro⟨⟨e,he,h1⟩,h2,h3⟩;have e1:e.1.1=a:=by rw[h1]
  have e2:e.1.2=b:=by rw[h1]
  refine⟨e,he,?_⟩
  rcases (by omega:c=0∨c=1) with h|h
  ·exact .inl ⟨e1.symm,e2.symm,h⟩
  ·exact .inr ⟨e1.symm,e2.symm,h⟩
 ·rintro⟨e,he,h|h⟩
  ·exact⟨⟨e,he,by rw[h.1,h.2.1]⟩,by omega,by omega⟩
  ·exact⟨⟨e,he,by rw[h.1,h.2.1]⟩,by omega,by omega⟩
theorem KW (A:Option Κ) (n c:Nat) (Vs:List VC) (B:Option Κ) (m k:Nat) (Es:List EC) (A':Option Κ) (n' c':Nat) (Ws:List VC) (B':Option Κ) (m' k':Nat) (Fs:List EC) (w:ο)
 (h:aR w A n c Vs B m k Es) (h':aR w A' n' c' Ws B' m' k' Fs) (hn:n≤1000000) (hm:m≤1000000):
 Ζ η 36 #[φ #[γ A n c,γ B m k],φ #[γ A' n' c',γ B' m' k']] w fun e w'=>e=.returned (Β (decide (Vs.map vS=Ws.map vS∧Es=Fs)))∧σ w.heap.size w w':=by
 have Hu:=qh h.v;have Hv:=qh h'.v;have HEu:=qh h.e;have HEv:=qh h'.e;have HRu:=qh h.r;have HRv:=qh h'.r;have hlu:=h.v.rlen aQ (by decide);have hlv:=h'.v.rlen aQ (by decide);have heu:=h.e.rlen bF (by decide);have hev:=h'.e.rlen bF (by decide);have Hlu:=qh hlu;have FP:=qh hlv;have X9:=qh heu;have XE:=qh hev;obtain⟨b,gb⟩:=ay (decide (Vs.map vS=Ws.map vS∧Es=Fs));rw[gb];have HG:=qh gb;have bX:=qh (cG w (δ #[γ A n c,γ B m k] 25) (δ #[γ A' n' c',γ B' m' k'] 25))
 by_cases hnn:n=n'
 case neg=>
  have hq:b=ρ:=by
   rw[←gb];refine decide_eq_false (fun e=>hnn ?_)
   have:=congrArg List.length e.1
   simp at this;omega
  subst hq;have cu:((n:Int) !=(n':Int))=true:=by simp;omega
  have G1:((n:Int)==(n':Int))=ρ:=by simp;omega
  clear h h' gb HG hlu hlv heu hev;go_enter Tryz.func36,Tryz.ntmps36;go_wp2;go_ret;exact⟨rfl,bX.out⟩
 by_cases Zl:m=m'
 case neg=>
  have hq:b=ρ:=by
   rw[←gb];refine decide_eq_false (fun e=>Zl ?_)
   have:=congrArg List.length e.2
   omega
  subst hq hnn;have cu:((m:Int) !=(m':Int))=true:=by simp;omega
  have G1:((m:Int)==(m':Int))=ρ:=by simp;omega
  clear h h' gb HG hlu hlv heu hev;go_enter Tryz.func36,Tryz.ntmps36;go_wp2;go_ret;exact⟨rfl,bX.out⟩
 subst hnn Zl;clear h h' gb hlu hlv heu hev bX;go_enter Tryz.func36,Tryz.ntmps36;go_wp2;obtain⟨W0,b0,b1,bP,bK,cX,aN,aI,a8,xj,DA,kQ,EH,jK,mj⟩:=E6 w 25 [γ A n c,γ B m k] 25 [γ A' n c',γ B' m k'];rw[bP,cX,bK];clear bP bK cX;go_loopw [5] (fun si wr=>∃j:Nat,j≤n∧si=J j∧Hid (σ w.heap.size w wr)∧Hid (Whole wr b0 25 [γ A n c,γ B m k])∧Hid (Whole wr b1 25 [γ A' n c',γ B' m k'])∧Hid (decide ((Vs.drop j).map vS=(Ws.drop j).map vS∧Es=Fs)=b)) (fun si _=>n - (intOf si).toNat)
 case atStart=>exact⟨0,by omega,rfl,a8,aN,aI,HG⟩
 case round=>
  clear a8 aN aI HG;obtain⟨j,hj,rfl,HB,aN,aI,HG⟩:=hrel;obtain⟨wo,ec⟩:=ay wr;rw[ec] at HB aN aI ⊢;clear ec;have cb:=aN.out.cell (i:=0) rfl
  by_cases o4:j<n
  ·obtain⟨xu,sW⟩:∃x,Vs[j]? =ζ x:=⟨_,θ (by have:=Hlu.out;omega)⟩
   obtain⟨xv,tW⟩:∃x,Ws[j]? =ζ x:=⟨_,θ (by have:=FP.out;omega)⟩
   have hg:=HG.out;rw[Χ (ν.1 sW).1,(ν.1 sW).2,Χ (ν.1 tW).1,(ν.1 tW).2] at hg;simp only[List.map_cons,List.cons.injEq] at hg;have hru:=HRu.out xu (ω sW);have hrv:=HRv.out xv (ω tW);obtain⟨T4,Fq,rfl,BF,AB⟩:=Hu.out.place aQ (by decide) (by omega);obtain⟨Tk,E4,rfl,AG,B4⟩:=Hv.out.place aQ (by decide) (by omega);have cR:=HB.out;have q0:=AB j _ sW 0 _ rfl;have q1:=AB j _ sW 1 _ rfl;have q2:=AB j _ sW 2 _ rfl;have q3:=AB j _ sW 3 _ rfl;have q4:=AB j _ sW 4 _ rfl;simp only[Ν,Jac] at q0 q1 q2 q3 q4;have lu0:=(cR.cell (p:=⟨T4,Fq+j*5,ε⟩) BF).trans q0;have lu1:=(cR.cell (p:=⟨T4,Fq+j*5+1,ε⟩) BF).trans q1;have lu2:=(cR.cell (p:=⟨T4,Fq+j*5+2,ε⟩) BF).trans q2;have lu3:=(cR.cell (p:=⟨T4,Fq+j*5+3,ε⟩) BF).trans q3;have lu4:=(cR.cell (p:=⟨T4,Fq+j*5+4,ε⟩) BF).trans q4;clear cR q0 q1 q2 q3 q4;have cR:=aE HB.out (δ (vC xu).toArray 59);have q0:=B4 j _ tW 0 _ rfl;have q1:=B4 j _ tW 1 _ rfl;have q2:=B4 j _ tW 2 _ rfl;have q3:=B4 j _ tW 3 _ rfl;have q4:=B4 j _ tW 4 _ rfl;simp only[Ν,Jac] at q0 q1 q2 q3 q4;have lv0:=(cR.cell (p:=⟨Tk,E4+j*5,ε⟩) AG).trans q0;have lv1:=(cR.cell (p:=⟨Tk,E4+j*5+1,ε⟩) AG).trans q1;have lv2:=(cR.cell (p:=⟨Tk,E4+j*5+2,ε⟩) AG).trans q2
   have lv3:=(cR.cell (p:=⟨Tk,E4+j*5+3,ε⟩) AG).trans q3;have lv4:=(cR.cell (p:=⟨Tk,E4+j*5+4,ε⟩) AG).trans q4;clear cR q0 q1 q2 q3 q4;obtain⟨⟨i1,i2⟩,⟨rA,rn,rc,rL⟩,lb,at_⟩:=xu;obtain⟨⟨j1,j2⟩,⟨sA,sn,sc,sL⟩,kb,OI⟩:=xv;dsimp only[vC] at lv0 lv1 lv2 lv3 lv4;have hR:aX w w.heap.size 3 rA rn rc (aA rL):=hru.2;have hS:aX w w.heap.size 3 sA sn sc (aA sL):=hrv.2;have hrc:rn≤9223372036854775807:=Λ (Λ hR.le hru.1) (by unfold Jap;omega);have HD:=qh (fun W (hb:σ w.heap.size w W)=>Gi rA sA rn sn rc sc rL sL W (hR.bl hb) (hS.bl hb) hrc);obtain⟨br,gbr⟩:=ay (decide (rL=sL));rw[gbr] at HD;have hid:∀W,(binOp .neq 30 (φ #[J i1,J i2]) (φ #[J j1,J j2])).run η W=.ok (Β (!decide ((i1,i2)=(j1,j2)))) W:=fun W=>TD (i1,i2) (j1,j2) W
   obtain⟨bi,gbi⟩:=ay (decide ((i1,i2)=(j1,j2)));rw[gbi] at hid;have GV:=bytes_beq lb kb;obtain⟨bs,U1⟩:=ay (decide (lb=kb));rw[U1] at GV;obtain⟨ba,gba⟩:=ay ((at_==OI));have ah2:(at_ !=OI)=!ba:=by rw[←gba];rfl
   have cN:decide (vS ((i1,i2),(rA,rn,rc,rL),lb,at_)=vS ((j1,j2),(sA,sn,sc,sL),kb,OI))=(bi && bs && ba && br):=by
    rw[←gbi,←U1,←gba,←gbr,Bool.eq_iff_iff];simp only[vS,decide_eq_true_eq,Jba,Jar,beq_iff_eq];constructor
    ·rintro⟨⟨h1,h2⟩,h3,h4,h5⟩;exact⟨⟨⟨⟨h1,h2⟩,h4⟩,h5⟩,h3⟩
    ·rintro⟨⟨⟨⟨h1,h2⟩,h4⟩,h5⟩,h3⟩;exact⟨⟨h1,h2⟩,h3,h4,h5⟩
   have fZ:Hid ((decide (vS ((i1,i2),(rA,rn,rc,rL),lb,at_)=vS ((j1,j2),(sA,sn,sc,sL),kb,OI)) && decide ((Vs.drop (j+1)).map vS=(Ws.drop (j+1)).map vS∧Es=Fs))=b):=qh (by
    rw[←hg,←Bool.decide_and,decide_eq_decide,and_assoc])
   have HA:=qh cN;have cb1:=aI.out.cell (i:=0) rfl;have cb2:=(aI.out.alloc (δ #[J i1,J i2,γ rA rn rc,μ lb,J at_] 59)).cell (i:=0) rfl;clear sW tW hg AB B4 BF AG HG hru hrv hR hS hrc gbr gbi U1 cN;go_wp2_with fail
   refine(HD.out _ (aE (aE HB.out (δ #[J i1,J i2,γ rA rn rc,μ lb,J at_] 59)) (δ #[J j1,J j2,γ sA sn sc,μ kb,J OI] 59))).mono ?_
   rintro e W3 ⟨rfl,hb⟩;have cI:Hid (σ w.heap.size w W3):=qh (af (aE (aE HB.out _) _) hb);have qY:=qh (((aN.out.alloc (δ #[J i1,J i2,γ rA rn rc,μ lb,J at_] 59)).alloc (δ #[J j1,J j2,γ sA sn sc,μ kb,J OI] 59)).bl hb);have nh:=qh (((aI.out.alloc (δ #[J i1,J i2,γ rA rn rc,μ lb,J at_] 59)).alloc (δ #[J j1,J j2,γ sA sn sc,μ kb,J OI] 59)).bl hb);have VY:=((Whole.new_ wo 59 [J i1,J i2,γ rA rn rc,μ lb,J at_]).alloc (δ #[J j1,J j2,γ sA sn sc,μ kb,J OI] 59)).bl hb;have I3:Whole W3 (wo.heap.size+1) 59 [J j1,J j2,γ sA sn sc,μ kb,J OI]:=(show Whole ((wo.alloc (δ #[J i1,J i2,γ rA rn rc,μ lb,J at_] 59)).alloc (δ #[J j1,J j2,γ sA sn sc,μ kb,J OI] 59)) (wo.heap.size+1) 59 [J j1,J j2,γ sA sn sc,μ kb,J OI] from Whole.new2 (by simp)).bl hb;obtain⟨gu,ggu⟩:=ay wo.heap.size;obtain⟨gv,ggv⟩:=ay (wo.heap.size+1);rw[ggv] at I3;rw[ggu] at VY;(try rw[ggv]);(try rw[ggu]);have mu0:=VY.cell (i:=0) rfl;have mv0:=I3.cell (i:=0) rfl;have mu1:=VY.cell (i:=1) rfl;have mv1:=I3.cell (i:=1) rfl;have mu3:=VY.cell (i:=3) rfl;have mv3:=I3.cell (i:=3) rfl;have mu4:=VY.cell (i:=4) rfl;have mv4:=I3.cell (i:=4) rfl
   clear hb VY I3 HB aN aI HD cb cb1 cb2 ggu ggv lu0 lv0 lu1 lv1 lu2 lv2 lu3 lv3 lu4 lv4;cases bi with
   |false=>
    have hq:b=ρ:=by rw[←fZ.out,HA.out];simp
    subst hq;clear fZ HA;go_wp2;go_ret;exact⟨rfl,cI.out⟩
   |true=>
    cases bs with
    |false=>
     have hq:b=ρ:=by rw[←fZ.out,HA.out];simp
     subst hq;clear fZ HA;go_wp2;go_ret;exact⟨rfl,cI.out⟩
    |true=>
     cases ba with
     |false=>
      have hq:b=ρ:=by rw[←fZ.out,HA.out];simp
      subst hq;clear fZ HA;go_wp2;go_ret;exact⟨rfl,cI.out⟩
     |true=>
      cases br with
      |false=>
       have hq:b=ρ:=by rw[←fZ.out,HA.out];simp
       subst hq;clear fZ HA;go_wp2;go_ret;exact⟨rfl,cI.out⟩
      |true=>
       have Ql:Hid (decide ((Vs.drop (j+1)).map vS=(Ws.drop (j+1)).map vS∧Es=Fs)=b):=qh (by
        rw[←fZ.out,HA.out];simp)
       clear fZ HA;go_wp2;go_roundw
       case rel=>exact⟨j+1,by omega,by go_num,cI,qY,nh,Ql⟩
       case measure=>simp[intOf];omega
  ·obtain rfl:n=j:=by omega
   have Pu:Hid (decide (Es.drop 0=Fs.drop 0)=b):=qh (by
    rw[←HG.out,Jav (show Vs.length≤n by have:=Hlu.out;omega),Jav (show Ws.length≤n by have:=FP.out;omega)];simp)
   clear HG;go_wp2;clear cb;go_loopw [9] (fun si wr=>∃j:Nat,j≤m∧si=J j∧Hid (σ w.heap.size w wr)∧Hid (Whole wr b0 25 [γ A n c,γ B m k])∧Hid (Whole wr b1 25 [γ A' n c',γ B' m k'])∧Hid (decide (Es.drop j=Fs.drop j)=b)) (fun si _=>m - (intOf si).toNat)
   case atStart=>exact⟨0,by omega,rfl,HB,aN,aI,Pu⟩
   case round=>
    clear HB aN aI Pu;obtain⟨j,Sv,rfl,HB,aN,aI,HG⟩:=hrel;obtain⟨wi,Yw⟩:=ay wr;rw[Yw] at HB aN aI ⊢;clear Yw;have cb:=aN.out.cell (i:=1) rfl
    by_cases hjm:j<m
    ·obtain⟨xu,sW⟩:∃x,Es[j]? =ζ x:=⟨_,θ (by have:=X9.out;omega)⟩
     obtain⟨xv,tW⟩:∃x,Fs[j]? =ζ x:=⟨_,θ (by have:=XE.out;omega)⟩
     have hg:=HG.out;rw[Χ (ν.1 sW).1,(ν.1 sW).2,Χ (ν.1 tW).1,(ν.1 tW).2] at hg;simp only[List.cons.injEq] at hg;have fZ:=qh hg;have cu:=fun W=>QG xu xv W
     obtain⟨bs,U1⟩:=ay (decide (xu=xv));rw[U1] at cu;have Gbs:=qh U1;obtain⟨T4,Fq,rfl,BF,AB⟩:=HEu.out.place bF (by decide) (by omega);obtain⟨Tk,E4,rfl,AG,B4⟩:=HEv.out.place bF (by decide) (by omega);have HCu:=qh (D8 (aL HB.out) BF (AB j xu sW));have UZ:=qh (D8 (aL HB.out) AG (B4 j xv tW));clear sW tW hg AB B4 BF AG HG U1;go_upto_region 14 with fail
     clear cb;have ldu:=dm (i:=1) aN.out rfl;have ldv:=dm (i:=1) aI.out rfl;refine aw (aF) (by kernel_rfl) ?_;refine ag 0 ?_;refine ag 1 ?_;refine ag 2 ?_;refine ag 3 ?_;refine bY 4 (hy:=bG (by rfl) 67 (.tmp 81) rfl ⟨T4,Fq+j*4,ε⟩ rfl (eC xu) _ HCu.out Tryz.underlying67 rfl (by kernel_rfl)) (h:=?_);refine ag 5 ?_;refine ag 6 ?_;refine ag 7 ?_;refine ag 8 ?_;refine bY 9 (hy:=bG (by rfl) 67 (.tmp 86) rfl ⟨Tk,E4+j*4,ε⟩ rfl (eC xv) _ UZ.out Tryz.underlying67 rfl (by kernel_rfl)) (h:=?_);refine bY 10 (hy:=dG (by rfl) (fun w' aB=>bE .neq 67 (.tmp 82) (.tmp 87) 67 rfl rfl rfl (by kernel_rfl) (cu w'))) (h:=?_);refine aD (by kernel_rfl) ?_ _;intro W3 fu;have cI:Hid (σ w.heap.size w W3):=qh (af (aL HB.out) fu);have qY:=qh (aN.out.dr.bl fu);have nh:=qh (aI.out.dr.bl fu);clear fu cu HCu UZ ldu ldv aN aI HB;cases bs with
     |false=>
      have hq:b=ρ:=by
       rw[←fZ.out];exact decide_eq_false (fun e=>of_decide_eq_false Gbs.out e.1)
      subst hq;clear fZ;go_wp2;go_ret;exact⟨rfl,cI.out⟩
     |true=>
      have Ql:Hid (decide (Es.drop (j+1)=Fs.drop (j+1))=b):=qh (by
       rw[←fZ.out,decide_eq_decide];exact⟨fun e=>⟨of_decide_eq_true Gbs.out,e⟩,fun e=>e.2⟩)
      clear fZ;go_wp2;go_roundw
      case rel=>exact⟨j+1,by omega,by go_num,cI,qY,nh,Ql⟩
      case measure=>simp[intOf];omega
    ·obtain rfl:m=j:=by omega
     have hq:b=true:=by
      rw[←HG.out,Jav (by have:=X9.out;omega),Jav (by have:=XE.out;omega)];rfl
     subst hq;clear HG;go_wp2;go_ret;exact⟨rfl,HB.out⟩
end Go.Proofs.YtpdpbfmiahjiiaaGreat
