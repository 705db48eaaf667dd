/- Several texts in one. -/
import Derived.Test.YtpdpbfmiahjiiaaGreatPsAB
import Derived.Test.YtpdpbfmiahjiiaaGreatPsAD
import Derived.Test.YtpdpbfmiahjiiaaGreatPsAF
import Derived.Test.YtpdpbfmiahjiiaaGreatPsAU
import Derived.Below
import Derived.BigQuiet
import Derived.Deep.AppendLies
import Derived.Deep.DeepCutAuto
import Derived.Deep.MidRow
import Derived.Deep.QuietTactic
import Derived.Deep.Slices
import Derived.Deep.WholeRow
import Derived.Great.Walk
import Derived.IntWalk
import Derived.KernelRfl
import Derived.Laws.AppendOwnNone
import Derived.Laws.NewBlocks
import Derived.Laws.OwnMore
import Derived.Laws.Rows
import Derived.Laws.Tables
import Derived.Lib.Hide
import Derived.Lib.SmallJoins
import Derived.LoopTactic
import Derived.Maps.AppendAt
import Derived.OrdersHeld
import Derived.Outline
import Derived.WalkKit
import Derived.WalkLawsBesides
import Derived.WalkSpells
set_option linter.unusedSectionVars false
set_option linter.unusedSimpArgs false
set_option linter.unusedVariables false
set_option maxRecDepth 100000
set_option maxHeartbeats 16000000
namespace Go.Proofs.YtpdpbfmiahjiiaaGreat
open Go.RowKit
open _root_.Go.Value renaming slice→γ,string→μ,agg→φ,bool→Β,tuple→Ξ,oneCell'→Τ
open _root_.Go.Obj renaming cells→δ
open _root_.Option renaming none→ε,some→ζ
open _root_.Go.Proofs.Tryz renaming prog→η
open _root_.Go.Act renaming put→ξ
open _root_.Go renaming World→ο,Calls→Ζ,Addr→Κ,maxLen→Jap
open _root_.Bool renaming false→ρ
open _root_.Go.RowKit renaming Below→σ
open _root_.List renaming length_append→Ε,length_drop→Jaz,length_take→JaA,length_cons→JaH
open _root_.Go.RowKit.Below renaming refl→Θ
open _root_.Nat renaming le_trans→Λ,zero_add→JaI
open _root_.Go.Addr renaming add_lit→Ν
open _root_.And renaming intro→Jax
open _root_.Go.World renaming size_alloc→JbF
theorem rfprev_any (A:Option Κ) (n c:Nat) (L:List D) (d:D) (w:ο) (h:bg w w.heap.size 3 A n c (aA L)) (hn:n≤1000000):
 Ζ η 35 #[γ A n c,φ #[J d.1,J d.2.1,J d.2.2]] w (GM w (kT L d) (decide (d∈L))):=by
 have HI:=qh (fun W h=>oN A n c L d W h (by omega));have H:=qh h;have hl:=h.dlen
 by_cases hd:d∈L
 ·obtain⟨e1,e2⟩:=j3 hd;rw[e1] at HI;obtain⟨k,gk⟩:=aB (L.idxOf d);have PH:k<n:=by omega
  have hs:kT L d=L.getD ((k+n - 1) % n) (0,0,0):=by rw[kT,uh,if_pos hd,gk,hl,show k+(n - 1)=k+n - 1 by omega]
  rw[gk] at HI e2;obtain⟨b,off,rfl,hb,hc⟩:=h.darts (by omega);have hj:(k+n - 1) % n<n:=Nat.mod_lt _ (by omega);have Fq:((k:Int)+(n:Int) - 1) % (n:Int)=(((k+n - 1) % n:Nat):Int):=by rw[Int.natCast_emod];congr 1;omega
  obtain⟨j,gj⟩:=aB ((k+n - 1) % n);rw[gj] at hs hj Fq;obtain⟨c1,c2,c3⟩:=hc j (by omega);obtain⟨x,gx⟩:=aB (L.getD j (0,0,0));rw[gx] at hs c1 c2 c3;rw[hs,decide_eq_true hd];have C1:=qh c1;have C2:=qh c2;have C3:=qh c3;clear hs gx gj hc hd gk e1 e2 h hl c1 c2 c3;go_enter Tryz.func35,Tryz.ntmps35
  go_wp2_with (first
   |(go_at_call 33;refine(HI.out _ (by exact H.out.up (cr _ _ _) (by simp<;>omega))).mono ?_;rintro e w2 ⟨rfl,aP⟩
     have HB:=qh (cW aP);have d1:=(HB.out.cell (p:=⟨b,off+j*3,ε⟩) hb).trans C1.out;have d2:=(HB.out.cell (p:=⟨b,off+j*3+1,ε⟩) hb).trans C2.out;have d3:=(HB.out.cell (p:=⟨b,off+j*3+2,ε⟩) hb).trans C3.out;have hz:=(Whole.new_ (w.alloc (δ #[J d.1,J d.2.1,J d.2.2] 32)) 32 [J 0,J 0,J 0]).below aP;simp only[JbF] at hz;have z0:=hz.cell (i:=0) rfl;have z1:=hz.cell (i:=1) rfl;have z2:=hz.cell (i:=2) rfl;have y0:=hz.free 0;have y1:=hz.free 1;have y2:=hz.free 2;clear aP hz))
  exact bodyPost_ret (v:=Ξ #[φ #[J x.1,J x.2.1,J x.2.2],Β true]) (by simp[results,Tryz.results35,go_sem,z0,z1,z2]) rfl ⟨rfl,((HB.out.setCell (by simp) _).setCell (by simp) _).setCell (by simp) _⟩
 ·have hs:kT L d=(0,0,0):=by rw[kT,uh,if_neg hd]
  rw[lK hd] at HI;rw[hs,decide_eq_false hd];clear hs h hd hl;go_enter Tryz.func35,Tryz.ntmps35
  go_wp2_with (first
   |(go_at_call 33;refine(HI.out _ (by exact H.out.up (cr _ _ _) (by simp<;>omega))).mono ?_;rintro e w2 ⟨rfl,aP⟩
     have HB:=qh (cW aP);have hz:=(Whole.new_ (w.alloc (δ #[J d.1,J d.2.1,J d.2.2] 32)) 32 [J 0,J 0,J 0]).below aP;simp only[JbF] at hz;have z0:=hz.cell (i:=0) rfl;have z1:=hz.cell (i:=1) rfl;have z2:=hz.cell (i:=2) rfl;have y0:=hz.free 0;have y1:=hz.free 1;have y2:=hz.free 2;clear aP hz))
  exact bodyPost_ret (v:=Ξ #[φ #[J 0,J 0,J 0],Β ρ]) (by simp[results,Tryz.results35,go_sem,z0,z1,z2]) rfl ⟨rfl,((HB.out.setCell (by simp) _).setCell (by simp) _).setCell (by simp) _⟩
theorem dartsV_set (L:List D) (k:Nat) (d:D):aA (L.set k d)=(((aA L).set (k*3) (J d.1)).set (k*3+1) (J d.2.1)).set (k*3+2) (J d.2.2):=by
 induction L generalizing k with
 |nil=>simp[aA]
 |cons x L ih=>
  cases k with
  |zero=>simp[aA]
  |succ k=>
   have e1:(k+1)*3=k*3+3:=by omega
   have e2:(k+1)*3+1=k*3+1+3:=by omega
   have e3:(k+1)*3+2=k*3+2+3:=by omega
   rw[e2,e3,e1];simp[aA,ih]
theorem own_set3 {W:ο} {B n cap g k:Nat} {e:TypeId} {L:List D} {d:D} (h:W.ownsRow B e 3 (γ (ζ ⟨g,0,ε⟩) n cap) n (aA L)):
 (((W.setCell ⟨g,k*3,ε⟩ (J d.1)).setCell ⟨g,k*3+1,ε⟩ (J d.2.1)).setCell ⟨g,k*3+2,ε⟩ (J d.2.2)).ownsRow B e 3 (γ (ζ ⟨g,0,ε⟩) n cap) n (aA (L.set k d)):=by
 rw[dartsV_set];exact(((h.stored (k*3) (J d.1)).1.stored (k*3+1) (J d.2.1)).1.stored (k*3+2) (J d.2.2)).1
theorem set_mid (L:List D) (k:Nat) (d:D) (h:k<L.length):L.set k d=L.take k++d::L.drop (k+1):=by
 induction L generalizing k with
 |nil=>simp at h
 |cons x L ih=>
  cases k with
  |zero=>simp
  |succ k=>simp[ih k (by simpa using h)]
def setRd (L:List D) (o d:D):List D:=if o∈L∧¬d∈L then L.set (L.idxOf o) d else L
theorem setRd_eq (L:List D) (o d:D):setRd L o d=j4 L o d:=by
 unfold setRd j4
 by_cases h:o∈L∧¬d∈L
 ·rw[if_pos h,if_pos h,set_mid _ _ _ (j3 h.1).2]
 ·rw[if_neg h,if_neg h]
theorem rfswap_any (A:Option Κ) (n c:Nat) (L:List D) (a d:D) (w:ο) (h:bg w w.heap.size 3 A n c (aA L)) (hn:n≤999000):
 Ζ η 103 #[γ A n c,φ #[J a.1,J a.2.1,J a.2.2],φ #[J d.1,J d.2.1,J d.2.2]] w (GivesC w (aM (j4 L a d))):=by
 obtain⟨i0,hi,qJ,ly,kK⟩:=info_parts zv;have HI:=qh (fun x W h=>oN A n c L x W h (by omega));have HT:=qh (fun A n c L W h hn=>rfturnc_any A n c L W h hn);have HR:=qh h;have hl:=h.dlen;subst hl;rw[←setRd_eq];obtain⟨W0,bO⟩:=aB ((w.alloc (δ #[J a.1,J a.2.1,J a.2.2] 32)).alloc (δ #[J d.1,J d.2.1,J d.2.2] 32));have fp:σ w.heap.size w W0:=by rw[←bO];exact cr _ _ _
 have Ye:w.heap.size+2=W0.heap.size:=by rw[←bO];simp
 have O3:Whole W0 w.heap.size 32 (aA [a]):=by rw[←bO];exact(Whole.new_ w _ (aA [a])).alloc _
 have M4:Whole W0 (w.heap.size+1) 32 (aA [d]):=by
  rw[←bO];exact Whole.new2 (cs:=aA [d]) (by simp)
 have hO0:Ow w (w.heap.size+2) 32 3 (γ (ζ ⟨W0.heap.size,0,ε⟩) 0 0) 0 [] (W0.alloc (δ #[] 32)):=Ow.new_ (e:=32) (size:=3) (cs:=#[]) fp (B:=w.heap.size+2) (by omega) (by omega) (n:=0) (Nat.zero_le _) rfl;have O0:=qh hO0;have R0:=qh ((HR.out.up fp fp.size).up (az W0 (δ #[] 32)) (az W0 (δ #[] 32)).size);have AA:=qh (Whole.alloc O3 (δ #[] 32));have DD:=qh (Whole.alloc M4 (δ #[] 32));have GW:=qh bO;have Xs:=qh (HI.out a);have Zn:=qh (HI.out d);have tok:True:=trivial;clear h bO fp O3 M4 HI Ye hO0;go_enter Tryz.func103,Tryz.ntmps103;go_upto_region 1 with fail
 rw[GW.out]
 go_upto_region 2 with (first
  |(at_builtin
    refine oQ rfl (.tmp 9) (.tmp 10) _ rfl _ 32 i0 _ 3 24 Tryz.underlying57 hi qJ ly kK rfl (by decide) (γ (ζ ⟨W0.heap.size,0,ε⟩) 0 0) 0 [] rfl (by exact O0.out) _ A L.length c (aA L) rfl (by exact R0.out) (im L) (by unfold Jap;omega) (by omega) ?_;intro v1 w1 fh cP;simp only[JaI,List.nil_append] at fh;have O1:=qh fh;have A1:=qh (AA.out.at_ (cP.block _ (by omega)));have D1:=qh (DD.out.at_ (cP.block _ (by omega)));clear fh cP))
 obtain⟨Av,cv,hv,hrv⟩:=O1.out.rds;subst hv;have B1:=qh O1.out.below;have a0:=A1.out.cell (i:=0) rfl;have a1:=A1.out.cell (i:=1) rfl;have a2:=A1.out.cell (i:=2) rfl;clear hrv
 by_cases ha:a∈L
 ·obtain⟨i1,i2⟩:=j3 ha;rw[i1] at Xs;obtain⟨k,gk⟩:=aB (L.idxOf a);rw[gk] at Xs i2
  by_cases hd:d∈L
  ·have e1:setRd L a d=L:=by rw[setRd,if_neg (fun h=>h.2 hd)]
   obtain⟨j1,j2⟩:=j3 hd;rw[j1] at Zn;obtain⟨j,gj⟩:=aB (L.idxOf d);rw[gj] at Zn;have E1:=qh e1;clear e1 ha hd i1 j1 j2 gk gj
   go_wp2_with (first
    |(go_at_call 33;have _t:=tok;refine(Xs.out _ (by exact HR.out.up B1.out B1.out.size)).mono ?_;rintro e w2 ⟨rfl,aP⟩;have O2:=qh (O1.out.up aP);have D2:=qh (D1.out.below aP);have q0:=D2.out.cell (i:=0) rfl;have q1:=D2.out.cell (i:=1) rfl;have q2:=D2.out.cell (i:=2) rfl;clear aP tok)
    |(go_at_call 33;refine(Zn.out _ (by exact HR.out.up O2.out.below O2.out.below.size)).mono ?_;rintro e w3 ⟨rfl,bA⟩;have O3:=qh (O2.out.up bA);obtain⟨A9,c9,hv9,M6⟩:=O3.out.rds;cases hv9;have R3:=qh M6;clear bA M6)
    |(go_at_call 79;refine(HT.out _ _ _ _ _ (by exact R3.out) (by omega)).mono ?_;rintro e w4 ⟨A2,c2,rfl,mg,ns,hc4⟩))
   go_ret;rw[E1.out];exact⟨A2,c2,rfl,mg,O3.out.below.trans (ns.mono O3.out.below.size),hc4⟩
  ·have e1:setRd L a d=L.set k d:=by rw[setRd,if_pos ⟨ha,hd⟩,gk]
   rw[lK hd] at Zn;have E1:=qh e1;clear e1 i1 gk ha hd;obtain⟨g,cap,hvv,hBg,dz⟩:=O1.out.own.form (by omega);cases hvv
   go_upto_region 4 with (first
    |(go_at_call 33;have _t:=tok;refine(Xs.out _ (by exact HR.out.up B1.out B1.out.size)).mono ?_;rintro e w2 ⟨rfl,aP⟩;have O2:=qh (O1.out.up aP);have D2:=qh (D1.out.below aP);have q0:=D2.out.cell (i:=0) rfl;have q1:=D2.out.cell (i:=1) rfl;have q2:=D2.out.cell (i:=2) rfl;clear aP tok)
    |(go_at_call 33;refine(Zn.out _ (by exact HR.out.up O2.out.below O2.out.below.size)).mono ?_;rintro e w3 ⟨rfl,bA⟩;have O3:=qh (O2.out.up bA);have D3:=qh (D2.out.below bA);have r0:=D3.out.cell (i:=0) rfl;have r1:=D3.out.cell (i:=1) rfl;have r2:=D3.out.cell (i:=2) rfl;clear bA))
   obtain⟨t1,t2,t3⟩:=qX L k i2;have s1:=O3.out.own.cells (g:=g) rfl _ _ t1;have s2:=O3.out.own.cells (g:=g) rfl _ _ t2;have s3:=O3.out.own.cells (g:=g) rfl _ _ t3;simp only[Ν,JaI] at s1 s2 s3;have z1:=O3.out.own.frozenAt (k*3);have z2:=O3.out.own.frozenAt (k*3+1);have z3:=O3.out.own.frozenAt (k*3+2);go_wp2_with fail
   have OS:Hid (Ow w (w.heap.size+2) 32 3 (γ (ζ ⟨g,0,ε⟩) L.length cv) L.length (aA (L.set k d)) (((w3.setCell ⟨g,k*3,ε⟩ (J d.1)).setCell ⟨g,k*3+1,ε⟩ (J d.2.1)).setCell ⟨g,k*3+2,ε⟩ (J d.2.2))):=
    ⟨own_set3 O3.out.own,((O3.out.below.setCell (by show w.heap.size≤g;omega) _).setCell (by show w.heap.size≤g;omega) _).setCell (by show w.heap.size≤g;omega) _,O3.out.lo,by simpa [World.setCell] using O3.out.hi⟩
   obtain⟨A9,c9,hv9,M6⟩:=OS.out.rds;cases hv9
   refine(HT.out _ _ _ _ _ (by exact M6) (by omega)).mono ?_
   rintro e w4 ⟨A2,c2,rfl,mg,ns,hc4⟩;go_wp2;go_ret;rw[E1.out];exact⟨A2,c2,rfl,mg,OS.out.below.trans (ns.mono OS.out.below.size),hc4⟩
 ·have e1:setRd L a d=L:=by rw[setRd,if_neg (fun h=>ha h.1)]
  rw[lK ha] at Xs;have E1:=qh e1;clear e1 ha
  go_wp2_with (first
   |(go_at_call 33;have _t:=tok;refine(Xs.out _ (by exact HR.out.up B1.out B1.out.size)).mono ?_;rintro e w2 ⟨rfl,aP⟩;have O3:=qh (O1.out.up aP);obtain⟨A9,c9,hv9,M6⟩:=O3.out.rds;cases hv9;have R3:=qh M6;clear aP tok M6)
   |(go_at_call 79;refine(HT.out _ _ _ _ _ (by exact R3.out) (by omega)).mono ?_;rintro e w4 ⟨A2,c2,rfl,mg,ns,hc4⟩))
  go_ret;rw[E1.out];exact⟨A2,c2,rfl,mg,O3.out.below.trans (ns.mono O3.out.below.size),hc4⟩
theorem rds_nil_ (w:ο) (B:Nat):bg w B 3 ε 0 0 (aA []):=⟨by simp[aA,ah],fun _=>⟨rfl,rfl⟩,Nat.le_refl _,fun a ha=>(by cases ha),fun a ha=>(by cases ha)⟩
theorem Whole.sub_ {w:ο} {g:Nat} {t:TypeId} {cs ds:List Value} (h:Whole w g t cs) (o:Nat) {i:Nat} {u:Value} (hu:ds[i]? =ζ u) (he:∀i u,ds[i]? =ζ u→cs[o+i]? =ζ u:=by intro i u h;rcases i with _|_|_|i<;>first|exact h|(simp at h)):w.cell? ((⟨g,o,ε⟩:Κ).add i)=ζ u:=by
 have:=h.cell (he i u hu)
 simpa only[Ν] using this
theorem rinserted_any {W:ο} {A:Option Κ} {n c:Nat} {Vs:List VC} {B:Option Κ} {m k:Nat} {Es:List EC} (h:bz W A n c Vs B m k Es) (hn:n≤1000) (hm:m≤1000) (hr:∀x∈Vs,x.2.1.2.1≤900000) (v1 v2 a1 a2 a3 d1 d2 d3:Int):
 Ζ η 74 #[φ #[γ A n c,γ B m k],φ #[J v1,J v2,J a1,J a2,J a3],φ #[J d1,J d2,J d3]] W (GivesDg W n m (cO (Vs.map vS) ((v1,v2),(a1,a2,a3)) (d1,d2,d3)) Es):=by
 have HV:Hid (∀X,σ W.heap.size W X→Ζ η 27 #[φ #[γ A n c,γ B m k],φ #[J v1,J v2]] X fun e w'=>e=.returned (Ξ #[φ (vC (eP Vs (v1,v2)).1).toArray,Β (eP Vs (v1,v2)).2])∧σ X.heap.size X w'):=qh (fun X hX=>Vr A n c Vs B m k Es v1 v2 X (h.v.bl hX) (by omega));have ec:=(tK Vs (v1,v2)).2
 have uH:RgOk W (eP Vs (v1,v2)).1.2.1∧(eP Vs (v1,v2)).1.2.1.2.1≤900000:=by
  rcases II (fun v:VC=>v.1) zV Vs (v1,v2) with h1|h1
  ·exact⟨h.r _ h1,hr _ h1⟩
  ·rw[show(eP Vs (v1,v2))=(zV,ρ) from h1];exact⟨⟨by decide,rds_nil_ W _⟩,by decide⟩
 obtain⟨⟨u,ok⟩,gu⟩:∃z,eP Vs (v1,v2)=z:=⟨_,rfl⟩
 rw[gu] at HV ec uH;obtain⟨⟨i1,i2⟩,⟨rA,rn,jg,rL⟩,lb,at_⟩:=u;replace HV:Hid (∀X,σ W.heap.size W X→Ζ η 27 #[φ #[γ A n c,γ B m k],φ #[J v1,J v2]] X fun e w'=>e=.returned (Ξ #[φ #[J i1,J i2,γ rA rn jg,μ lb,J at_],Β ok])∧σ X.heap.size X w'):=HV;obtain⟨uH,kc⟩:=uH;dsimp only at ec uH kc;have qx:rL.length=rn:=by have:=uH.2.len;rw[dj] at this;dsimp only at this;omega
 have HC:Hid (∀X,σ W.heap.size W X→Ζ η 100 #[γ rA rn jg,φ #[J a1,J a2,J a3],φ #[J d1,J d2,J d3]] X (GivesC X (aM (ja rL (a1,a2,a3) (d1,d2,d3))))):=qh (fun X hX=>rfinsertc_any rA rn jg rL (a1,a2,a3) (d1,d2,d3) X (uH.2.bl hX) (by omega))
 have wN:(aM (ja rL (a1,a2,a3) (d1,d2,d3))).length≤900001:=by
  rw[kB];unfold ja;split<;>(try simp only[Ε,JaH,JaA,Jaz])<;>omega
 have HP:Hid (dS (Vs.map vS) (v1,v2) (aM (ja rL (a1,a2,a3) (d1,d2,d3)))=cO (Vs.map vS) ((v1,v2),(a1,a2,a3)) (d1,d2,d3)):=qh (by
  unfold cO;rw[←ec])
 obtain⟨L9,LD⟩:=aB (aM (ja rL (a1,a2,a3) (d1,d2,d3)));rw[LD] at HC HP wN;have HR:Hid (∀X A9 N9 c9,σ W.heap.size W X→N9=L9.length→RgOk X (A9,N9,c9,L9)→Ζ η 99 #[φ #[γ A n c,γ B m k],φ #[J v1,J v2],γ A9 N9 c9] X (GivesDg X n m (dS (Vs.map vS) (v1,v2) L9) Es)):=qh (fun X A9 N9 c9 hX _ hR=>rringed_any (h.below hX) hn hm (fun x hx=>by have:=hr x hx;omega) (v1,v2) (A9,N9,c9,L9) hR);rw[HP.out] at HR;obtain⟨P,gP⟩:=aB (cO (Vs.map vS) ((v1,v2),(a1,a2,a3)) (d1,d2,d3));rw[gP] at HR ⊢;clear h hr gu ec uH kc LD HP gP qx wN;show Ζ _ _ _ _ fun e w'=>∃A' c' B' k' Ws,e=.returned (φ #[γ A' n c',γ B' m k'])∧bz w' A' n c' Ws B' m k' Es∧Ws.map vS=P∧(∀a,A'=ζ a→W.heap.size≤a.block)∧c'≤Jap∧k'≤Jap∧σ W.heap.size W w'
 go_enter Tryz.func74,Tryz.ntmps74;go_upto_region 1 with fail
 have lQ:Whole ((((W.alloc (δ #[γ A n c,γ B m k] 25)).alloc (δ #[J v1,J v2,J a1,J a2,J a3] 34)).alloc (δ #[J d1,J d2,J d3] 32)).alloc (δ #[γ ε 0 0,γ ε 0 0] 25)) (W.heap.size) 25 [γ A n c,γ B m k]:=((((Whole.new_ W 25 [γ A n c,γ B m k]).al (δ #[J v1,J v2,J a1,J a2,J a3] 34)).al (δ #[J d1,J d2,J d3] 32)).al (δ #[γ ε 0 0,γ ε 0 0] 25));have jq:Whole ((((W.alloc (δ #[γ A n c,γ B m k] 25)).alloc (δ #[J v1,J v2,J a1,J a2,J a3] 34)).alloc (δ #[J d1,J d2,J d3] 32)).alloc (δ #[γ ε 0 0,γ ε 0 0] 25)) (W.heap.size+1) 34 [J v1,J v2,J a1,J a2,J a3]:=(((Whole.new2 (w:=(W.alloc (δ #[γ A n c,γ B m k] 25))) (cs:=[J v1,J v2,J a1,J a2,J a3]) (by simp)).al (δ #[J d1,J d2,J d3] 32)).al (δ #[γ ε 0 0,γ ε 0 0] 25));have uU:Whole ((((W.alloc (δ #[γ A n c,γ B m k] 25)).alloc (δ #[J v1,J v2,J a1,J a2,J a3] 34)).alloc (δ #[J d1,J d2,J d3] 32)).alloc (δ #[γ ε 0 0,γ ε 0 0] 25)) (W.heap.size+1+1) 32 [J d1,J d2,J d3]:=((Whole.new2 (w:=((W.alloc (δ #[γ A n c,γ B m k] 25)).alloc (δ #[J v1,J v2,J a1,J a2,J a3] 34))) (cs:=[J d1,J d2,J d3]) (by simp)).al (δ #[γ ε 0 0,γ ε 0 0] 25))
 have hx3:Whole ((((W.alloc (δ #[γ A n c,γ B m k] 25)).alloc (δ #[J v1,J v2,J a1,J a2,J a3] 34)).alloc (δ #[J d1,J d2,J d3] 32)).alloc (δ #[γ ε 0 0,γ ε 0 0] 25)) (W.heap.size+1+1+1) 25 [γ ε 0 0,γ ε 0 0]:=(Whole.new2 (w:=(((W.alloc (δ #[γ A n c,γ B m k] 25)).alloc (δ #[J v1,J v2,J a1,J a2,J a3] 34)).alloc (δ #[J d1,J d2,J d3] 32))) (cs:=[γ ε 0 0,γ ε 0 0]) (by simp));have oI:σ W.heap.size W ((((W.alloc (δ #[γ A n c,γ B m k] 25)).alloc (δ #[J v1,J v2,J a1,J a2,J a3] 34)).alloc (δ #[J d1,J d2,J d3] 32)).alloc (δ #[γ ε 0 0,γ ε 0 0] 25)):=(aI (aI (aI (az W _) _) _) _);obtain⟨W0,bO⟩:=aB (((((W.alloc (δ #[γ A n c,γ B m k] 25)).alloc (δ #[J v1,J v2,J a1,J a2,J a3] 34)).alloc (δ #[J d1,J d2,J d3] 32)).alloc (δ #[γ ε 0 0,γ ε 0 0] 25)));rw[bO] at lQ jq uU hx3 oI ⊢;obtain⟨b3,Z6⟩:=aB (W.heap.size+1+1+1);rw[Z6] at hx3 ⊢;obtain⟨b2,jc⟩:=aB (W.heap.size+1+1);rw[jc] at uU ⊢;obtain⟨b1,dE⟩:=aB (W.heap.size+1);rw[dE] at jq ⊢;obtain⟨b0,bp⟩:=aB W.heap.size;rw[bp] at lQ ⊢;have aQ:=qh lQ;have aL:=qh jq;have aZ:=qh uU
 have cF:=qh hx3;have bw:=qh oI;have oa:Hid (W.heap.size≤b0):=qh (by omega);have iP:Hid (W.heap.size≤b1):=qh (by omega);have eI:Hid (W.heap.size≤b2):=qh (by omega);have Lb3:Hid (W.heap.size≤b3):=qh (by omega);have uW:Hid (b0≠b1):=qh (by omega);have RA:Hid (b0≠b2):=qh (by omega);have N03:Hid (b0≠b3):=qh (by omega);have tU:Hid (b1≠b2):=qh (by omega);have N13:Hid (b1≠b3):=qh (by omega);have N23:Hid (b2≠b3):=qh (by omega);clear bO oI lQ jq uU hx3 bp dE jc Z6;have x0:=aQ.out.cell (i:=0) rfl;have x1:=aQ.out.cell (i:=1) rfl;have y0:=aL.out.cell (i:=0) rfl;have y1:=aL.out.cell (i:=1) rfl;have y2:=aL.out.cell (i:=2) rfl;have y3:=aL.out.cell (i:=3) rfl;have y4:=aL.out.cell (i:=4) rfl;have z0:=aZ.out.cell (i:=0) rfl;have z1:=aZ.out.cell (i:=1) rfl;have z2:=aZ.out.cell (i:=2) rfl
 go_upto_region 2 with (first
  |(go_at_call 27
    refine(HV.out _ bw.out).mono ?_
    rintro e w2 ⟨rfl,aP⟩;have Zk:=qh aP;clear aP x0 x1 y0 y1 y2 y3 y4 z0 z1 z2))
 have aP:=Zk.out;have HBs0:=qh (aI (ag bw.out aP) (δ #[J i1,J i2,γ rA rn jg,μ lb,J at_] 59));have HX0s:=qh ((aQ.out.bl aP).al (δ #[J i1,J i2,γ rA rn jg,μ lb,J at_] 59));have HX1s:=qh ((aL.out.bl aP).al (δ #[J i1,J i2,γ rA rn jg,μ lb,J at_] 59));have HX2s:=qh ((aZ.out.bl aP).al (δ #[J i1,J i2,γ rA rn jg,μ lb,J at_] 59));have HX3s:=qh ((cF.out.bl aP).al (δ #[J i1,J i2,γ rA rn jg,μ lb,J at_] 59));have KT:=qh (Whole.new_ w2 59 [J i1,J i2,γ rA rn jg,μ lb,J at_]);obtain⟨Wn0,gWn⟩:=aB (w2.alloc (δ #[J i1,J i2,γ rA rn jg,μ lb,J at_] 59));obtain⟨b4,gbn⟩:=aB w2.heap.size;rw[gWn] at HBs0 KT HX0s HX1s HX2s HX3s ⊢;rw[gbn] at KT ⊢;clear gWn gbn aP Zk bw aQ aL aZ cF HV;have tX:=cm (i:=2) KT.out rfl;refine cI (aO) [10] (by kernel_rfl) ?_;refine S4 0 (hy:=ib (by rfl) 25 (.tmp 3) rfl b0 rfl 25 [γ A n c,γ B m k] _ (fun w' h=>h.whole HX0s.out.dr (fun h=>h)) Tryz.underlying25 rfl (by kernel_rfl)) (h:=?_);refine aU 1 ?_;refine S4 2 (hy:=nS (by rfl) 30 (.tmp 17) rfl ⟨b1,0,ε⟩ rfl [J v1,J v2] _ (fun w' h i u hu=>(h.whole HX1s.out.dr (fun h=>h)).sub_ 0 hu) Tryz.underlying30 rfl (by kernel_rfl)) (h:=?_);refine aU 3 ?_;refine aU 4 ?_
 refine aU 5 ?_;refine S4 6 (hy:=nS (by rfl) 32 (.tmp 21) rfl ⟨b1,2,ε⟩ rfl [J a1,J a2,J a3] _ (fun w' h i u hu=>(h.whole HX1s.out.dr (fun h=>h)).sub_ 2 hu) Tryz.underlying32 rfl (by kernel_rfl)) (h:=?_);refine S4 7 (hy:=ib (by rfl) 32 (.tmp 5) rfl b2 rfl 32 [J d1,J d2,J d3] _ (fun w' h=>h.whole HX2s.out.dr (fun h=>h)) Tryz.underlying32 rfl (by kernel_rfl)) (h:=?_);refine CR 8 ?_;intro w' aC;have hx:=(Θ _ Wn0).drew.trans aC
 refine(HC.out w' (ag HBs0.out hx)).mono ?_
 rintro e w9 ⟨A9,c9,rfl,M6,sZ,EU⟩
 refine⟨_,rfl,Kept.of_below sZ,?_⟩
 have xK:Hid (σ Wn0.heap.size Wn0 w9):=qh (Ext.trans hx sZ);have rK:=qh M6;have Hc9:=qh EU;obtain⟨N9,Si⟩:=aB L9.length;have HN9:=qh Si;rw[Si] at rK ⊢;clear hx aC M6 sZ EU Si HC;simp only[ξ,aw,ar,aq];refine CR 9 ?_;intro w' aC;have hx:σ Wn0.heap.size Wn0 w':=Ext.trans xK.out aC
 refine(HR.out w' A9 N9 c9 (ag HBs0.out hx) HN9.out.symm ⟨Hc9.out,rK.out.bl aC⟩).mono ?_
 rintro e Nw ⟨A5,c5,B5,k5,Ws,rfl,hdg,hmap,Iv,Ph,Se,oD⟩
 refine⟨_,rfl,Kept.of_below oD,?_⟩
 have HD:=qh hdg;have HM:=qh hmap;have HF:Hid (∀a,A5=ζ a→Wn0.heap.size≤a.block):=qh (fun a ha=>Λ hx.size (Iv a ha));have Hck:=qh (Jax Ph Se);have Ve:Hid (σ Wn0.heap.size Wn0 Nw):=qh (Ext.trans hx oD);clear hx aC hdg hmap Iv Ph Se oD xK rK Hc9 HN9 HR;simp only[ξ,aw,ar,aq];refine qu 10 ?_;intro w' aC;have hx:σ Wn0.heap.size Wn0 w':=Ext.trans Ve.out aC;have hZ:=HX3s.out.bl hx
 refine⟨w'.setCells b3 0 [γ A5 n c5,γ B5 m k5],qz 25 (.tmp 6) (.tmp 25) rfl b3 0 rfl [γ A5 n c5,γ B5 m k5] rfl (hZ.there_ 0 2 (by decide)) (by kernel_rfl) (by simp[Τ]),?_⟩
 have Bq:∀a,A5=ζ a→0<n→a.block≠b3:=fun a ha _=>by
  have h1:=HF.out a ha;have h2:=HX3s.out.lt;omega
 have Oe:Hid (bz (w'.setCells b3 0 [γ A5 n c5,γ B5 m k5]) A5 n c5 Ws B5 m k5 Es):=qh (dg_poke (dg_poke (HD.out.bl aC) (hZ.cell (i:=0) rfl) Bq _) ((hZ.set_ 0 _).cell (i:=1) rfl) Bq _);have UP:Hid (Whole (w'.setCells b3 0 [γ A5 n c5,γ B5 m k5]) b3 25 [γ A5 n c5,γ B5 m k5]):=qh ((hZ.set_ 0 (γ A5 n c5)).set_ 1 (γ B5 m k5));have kC:Hid (σ W.heap.size W (w'.setCells b3 0 [γ A5 n c5,γ B5 m k5])):=qh (((ag HBs0.out hx).setCell (p:=⟨b3,0,ε⟩) Lb3.out (γ A5 n c5)).setCell (p:=⟨b3,1,ε⟩) Lb3.out (γ B5 m k5));obtain⟨V5,gV5⟩:=aB (w'.setCells b3 0 [γ A5 n c5,γ B5 m k5]);rw[gV5] at Oe UP kC ⊢;have HF4:Hid (∀a,A5=ζ a→W.heap.size≤a.block):=qh (fun a ha=>Λ HBs0.out.size (HF.out a ha));clear gV5 aC hx hZ Bq HD Ve HF;(try simp only[ξ,aw,ar,aq]);refine gG (by kernel_rfl) ?_ _;intro w8 cg;have HD8:=qh (Oe.out.bl cg);have Tm:=qh (UP.out.bl cg);have nV:=qh (ag kC.out cg);clear cg Oe UP kC;go_wp2;exact dO rfl b3 rfl Tm.out Tryz.underlying25 rfl (by kernel_rfl) rfl ⟨A5,c5,B5,k5,Ws,rfl,HD8.out,HM.out,HF4.out,Hck.out.1,Hck.out.2,nV.out⟩
theorem rswapped_any {W:ο} {A:Option Κ} {n c:Nat} {Vs:List VC} {B:Option Κ} {m k:Nat} {Es:List EC} (h:bz W A n c Vs B m k Es) (hn:n≤1000) (hm:m≤1000) (hr:∀x∈Vs,x.2.1.2.1≤900000) (a1 a2 a3 d1 d2 d3:Int):
 Ζ η 78 #[φ #[γ A n c,γ B m k],φ #[J a1,J a2,J a3],φ #[J d1,J d2,J d3]] W (GivesDg W n m (dL (Vs.map vS) (a1,a2,a3) (d1,d2,d3)) Es):=by
 have NO:Hid (∀X,σ W.heap.size W X→Ζ η 29 #[φ #[γ A n c,γ B m k],φ #[J a1,J a2,J a3]] X fun e w'=>e=.returned (Ξ #[φ #[J (lE Vs (a1,a2,a3)).1.1,J (lE Vs (a1,a2,a3)).1.2],Β (lE Vs (a1,a2,a3)).2])∧σ X.heap.size X w'):=qh (fun X hX=>Bl A n c Vs B m k Es a1 a2 a3 X (h.below hX) (by omega) (fun y hy=>by have:=hr y hy;omega));have SU:=congrArg (·.1) (SO Vs (a1,a2,a3));dsimp only at SU;obtain⟨⟨⟨v1,v2⟩,st⟩,gat⟩:∃z,lE Vs (a1,a2,a3)=z:=⟨_,rfl⟩
 rw[gat] at NO SU;clear gat;have HV:Hid (∀X,σ W.heap.size W X→Ζ η 27 #[φ #[γ A n c,γ B m k],φ #[J v1,J v2]] X fun e w'=>e=.returned (Ξ #[φ (vC (eP Vs (v1,v2)).1).toArray,Β (eP Vs (v1,v2)).2])∧σ X.heap.size X w'):=qh (fun X hX=>Vr A n c Vs B m k Es v1 v2 X (h.v.bl hX) (by omega));have ec:=(tK Vs (v1,v2)).2
 have uH:RgOk W (eP Vs (v1,v2)).1.2.1∧(eP Vs (v1,v2)).1.2.1.2.1≤900000:=by
  rcases II (fun v:VC=>v.1) zV Vs (v1,v2) with h1|h1
  ·exact⟨h.r _ h1,hr _ h1⟩
  ·rw[show(eP Vs (v1,v2))=(zV,ρ) from h1];exact⟨⟨by decide,rds_nil_ W _⟩,by decide⟩
 obtain⟨⟨u,ok⟩,gu⟩:∃z,eP Vs (v1,v2)=z:=⟨_,rfl⟩
 rw[gu] at HV ec uH;obtain⟨⟨i1,i2⟩,⟨rA,rn,jg,rL⟩,lb,at_⟩:=u;replace HV:Hid (∀X,σ W.heap.size W X→Ζ η 27 #[φ #[γ A n c,γ B m k],φ #[J v1,J v2]] X fun e w'=>e=.returned (Ξ #[φ #[J i1,J i2,γ rA rn jg,μ lb,J at_],Β ok])∧σ X.heap.size X w'):=HV;obtain⟨uH,kc⟩:=uH;dsimp only at ec uH kc;have qx:rL.length=rn:=by have:=uH.2.len;rw[dj] at this;dsimp only at this;omega
 have HC:Hid (∀X,σ W.heap.size W X→Ζ η 103 #[γ rA rn jg,φ #[J a1,J a2,J a3],φ #[J d1,J d2,J d3]] X (GivesC X (aM (j4 rL (a1,a2,a3) (d1,d2,d3))))):=qh (fun X hX=>rfswap_any rA rn jg rL (a1,a2,a3) (d1,d2,d3) X (uH.2.bl hX) (by omega))
 have wN:(aM (j4 rL (a1,a2,a3) (d1,d2,d3))).length≤900001:=by
  rw[kB];unfold j4;split<;>(try simp only[Ε,JaH,JaA,Jaz])<;>omega
 have HP:Hid (dS (Vs.map vS) (v1,v2) (aM (j4 rL (a1,a2,a3) (d1,d2,d3)))=dL (Vs.map vS) (a1,a2,a3) (d1,d2,d3)):=qh (by
  unfold dL;rw[←SU,←ec])
 obtain⟨L9,LD⟩:=aB (aM (j4 rL (a1,a2,a3) (d1,d2,d3)));rw[LD] at HC HP wN;have HR:Hid (∀X A9 N9 c9,σ W.heap.size W X→N9=L9.length→RgOk X (A9,N9,c9,L9)→Ζ η 99 #[φ #[γ A n c,γ B m k],φ #[J v1,J v2],γ A9 N9 c9] X (GivesDg X n m (dS (Vs.map vS) (v1,v2) L9) Es)):=qh (fun X A9 N9 c9 hX _ hR=>rringed_any (h.below hX) hn hm (fun x hx=>by have:=hr x hx;omega) (v1,v2) (A9,N9,c9,L9) hR);rw[HP.out] at HR;obtain⟨P,gP⟩:=aB (dL (Vs.map vS) (a1,a2,a3) (d1,d2,d3));rw[gP] at HR ⊢;clear h hr gu ec uH kc LD HP gP qx wN SU;show Ζ _ _ _ _ fun e w'=>∃A' c' B' k' Ws,e=.returned (φ #[γ A' n c',γ B' m k'])∧bz w' A' n c' Ws B' m k' Es∧Ws.map vS=P∧(∀a,A'=ζ a→W.heap.size≤a.block)∧c'≤Jap∧k'≤Jap∧σ W.heap.size W w'
 go_enter Tryz.func78,Tryz.ntmps78;go_upto_region 1 with fail
 have lQ:Whole ((((W.alloc (δ #[γ A n c,γ B m k] 25)).alloc (δ #[J a1,J a2,J a3] 32)).alloc (δ #[J d1,J d2,J d3] 32)).alloc (δ #[γ ε 0 0,γ ε 0 0] 25)) (W.heap.size) 25 [γ A n c,γ B m k]:=((((Whole.new_ W 25 [γ A n c,γ B m k]).al (δ #[J a1,J a2,J a3] 32)).al (δ #[J d1,J d2,J d3] 32)).al (δ #[γ ε 0 0,γ ε 0 0] 25));have jq:Whole ((((W.alloc (δ #[γ A n c,γ B m k] 25)).alloc (δ #[J a1,J a2,J a3] 32)).alloc (δ #[J d1,J d2,J d3] 32)).alloc (δ #[γ ε 0 0,γ ε 0 0] 25)) (W.heap.size+1) 32 [J a1,J a2,J a3]:=(((Whole.new2 (w:=(W.alloc (δ #[γ A n c,γ B m k] 25))) (cs:=[J a1,J a2,J a3]) (by simp)).al (δ #[J d1,J d2,J d3] 32)).al (δ #[γ ε 0 0,γ ε 0 0] 25));have uU:Whole ((((W.alloc (δ #[γ A n c,γ B m k] 25)).alloc (δ #[J a1,J a2,J a3] 32)).alloc (δ #[J d1,J d2,J d3] 32)).alloc (δ #[γ ε 0 0,γ ε 0 0] 25)) (W.heap.size+1+1) 32 [J d1,J d2,J d3]:=((Whole.new2 (w:=((W.alloc (δ #[γ A n c,γ B m k] 25)).alloc (δ #[J a1,J a2,J a3] 32))) (cs:=[J d1,J d2,J d3]) (by simp)).al (δ #[γ ε 0 0,γ ε 0 0] 25))
 have hx3:Whole ((((W.alloc (δ #[γ A n c,γ B m k] 25)).alloc (δ #[J a1,J a2,J a3] 32)).alloc (δ #[J d1,J d2,J d3] 32)).alloc (δ #[γ ε 0 0,γ ε 0 0] 25)) (W.heap.size+1+1+1) 25 [γ ε 0 0,γ ε 0 0]:=(Whole.new2 (w:=(((W.alloc (δ #[γ A n c,γ B m k] 25)).alloc (δ #[J a1,J a2,J a3] 32)).alloc (δ #[J d1,J d2,J d3] 32))) (cs:=[γ ε 0 0,γ ε 0 0]) (by simp));have oI:σ W.heap.size W ((((W.alloc (δ #[γ A n c,γ B m k] 25)).alloc (δ #[J a1,J a2,J a3] 32)).alloc (δ #[J d1,J d2,J d3] 32)).alloc (δ #[γ ε 0 0,γ ε 0 0] 25)):=(aI (aI (aI (az W _) _) _) _);obtain⟨W0,bO⟩:=aB (((((W.alloc (δ #[γ A n c,γ B m k] 25)).alloc (δ #[J a1,J a2,J a3] 32)).alloc (δ #[J d1,J d2,J d3] 32)).alloc (δ #[γ ε 0 0,γ ε 0 0] 25)));rw[bO] at lQ jq uU hx3 oI ⊢;obtain⟨b3,Z6⟩:=aB (W.heap.size+1+1+1);rw[Z6] at hx3 ⊢;obtain⟨b2,jc⟩:=aB (W.heap.size+1+1);rw[jc] at uU ⊢;obtain⟨b1,dE⟩:=aB (W.heap.size+1);rw[dE] at jq ⊢;obtain⟨b0,bp⟩:=aB W.heap.size;rw[bp] at lQ ⊢;have aQ:=qh lQ;have aL:=qh jq;have aZ:=qh uU;have cF:=qh hx3;have bw:=qh oI;have oa:Hid (W.heap.size≤b0):=qh (by omega);have iP:Hid (W.heap.size≤b1):=qh (by omega)
 have eI:Hid (W.heap.size≤b2):=qh (by omega);have Lb3:Hid (W.heap.size≤b3):=qh (by omega);have uW:Hid (b0≠b1):=qh (by omega);have RA:Hid (b0≠b2):=qh (by omega);have N03:Hid (b0≠b3):=qh (by omega);have tU:Hid (b1≠b2):=qh (by omega);have N13:Hid (b1≠b3):=qh (by omega);have N23:Hid (b2≠b3):=qh (by omega);clear bO oI lQ jq uU hx3 bp dE jc Z6;have x0:=aQ.out.cell (i:=0) rfl;have x1:=aQ.out.cell (i:=1) rfl;have y0:=aL.out.cell (i:=0) rfl;have y1:=aL.out.cell (i:=1) rfl;have y2:=aL.out.cell (i:=2) rfl;have z0:=aZ.out.cell (i:=0) rfl;have z1:=aZ.out.cell (i:=1) rfl;have z2:=aZ.out.cell (i:=2) rfl
 go_upto_region 2 with (first
  |(go_at_call 29
    refine(NO.out _ bw.out).mono ?_
    rintro e w2 ⟨rfl,aP⟩;have Zk:=qh aP;clear aP x0 x1 y0 y1 y2 z0 z1 z2))
 have aP:=Zk.out;have HBs0:=qh (aI (ag bw.out aP) (δ #[J v1,J v2] 30));have HX0s:=qh ((aQ.out.bl aP).al (δ #[J v1,J v2] 30));have HX1s:=qh ((aL.out.bl aP).al (δ #[J v1,J v2] 30));have HX2s:=qh ((aZ.out.bl aP).al (δ #[J v1,J v2] 30));have HX3s:=qh ((cF.out.bl aP).al (δ #[J v1,J v2] 30));have KT:=qh (Whole.new_ w2 30 [J v1,J v2]);obtain⟨Wn0,gWn⟩:=aB (w2.alloc (δ #[J v1,J v2] 30));obtain⟨b4,gbn⟩:=aB w2.heap.size;rw[gWn] at HBs0 KT HX0s HX1s HX2s HX3s ⊢;rw[gbn] at KT ⊢;clear gWn gbn aP Zk bw aQ aL aZ cF NO;have x0:=HX0s.out.cell (i:=0) rfl;have x1:=HX0s.out.cell (i:=1) rfl;have y0:=KT.out.cell (i:=0) rfl;have y1:=KT.out.cell (i:=1) rfl
 go_upto_region 3 with (first
  |(go_at_call 27
    refine(HV.out _ HBs0.out).mono ?_
    rintro e w2 ⟨rfl,aP⟩;have Zk:=qh aP;clear aP x0 x1 y0 y1))
 have aP:=Zk.out;have HBs1:=qh (aI (ag HBs0.out aP) (δ #[J i1,J i2,γ rA rn jg,μ lb,J at_] 59));have HX0ss:=qh ((HX0s.out.bl aP).al (δ #[J i1,J i2,γ rA rn jg,μ lb,J at_] 59));have HX1ss:=qh ((HX1s.out.bl aP).al (δ #[J i1,J i2,γ rA rn jg,μ lb,J at_] 59));have HX2ss:=qh ((HX2s.out.bl aP).al (δ #[J i1,J i2,γ rA rn jg,μ lb,J at_] 59));have HX3ss:=qh ((HX3s.out.bl aP).al (δ #[J i1,J i2,γ rA rn jg,μ lb,J at_] 59));have HN0s:=qh ((KT.out.bl aP).al (δ #[J i1,J i2,γ rA rn jg,μ lb,J at_] 59));have Ed:=qh (Whole.new_ w2 59 [J i1,J i2,γ rA rn jg,μ lb,J at_]);obtain⟨Wn1,gWn⟩:=aB (w2.alloc (δ #[J i1,J i2,γ rA rn jg,μ lb,J at_] 59));obtain⟨b5,gbn⟩:=aB w2.heap.size;rw[gWn] at HBs1 Ed HX0ss HX1ss HX2ss HX3ss HN0s ⊢;rw[gbn] at Ed ⊢;clear gWn gbn aP Zk HBs0 HX0s HX1s HX2s HX3s KT HV;have pV:=cm (i:=2) Ed.out rfl;refine cI (aO) [8] (by kernel_rfl) ?_;refine S4 0 (hy:=ib (by rfl) 25 (.tmp 3) rfl b0 rfl 25 [γ A n c,γ B m k] _ (fun w' h=>h.whole HX0ss.out.dr (fun h=>h)) Tryz.underlying25 rfl (by kernel_rfl)) (h:=?_);refine S4 1 (hy:=ib (by rfl) 30 (.tmp 7) rfl b4 rfl 30 [J v1,J v2] _ (fun w' h=>h.whole HN0s.out.dr (fun h=>h)) Tryz.underlying30 rfl (by kernel_rfl)) (h:=?_)
 refine aU 2 ?_;refine aU 3 ?_;refine S4 4 (hy:=ib (by rfl) 32 (.tmp 4) rfl b1 rfl 32 [J a1,J a2,J a3] _ (fun w' h=>h.whole HX1ss.out.dr (fun h=>h)) Tryz.underlying32 rfl (by kernel_rfl)) (h:=?_);refine S4 5 (hy:=ib (by rfl) 32 (.tmp 5) rfl b2 rfl 32 [J d1,J d2,J d3] _ (fun w' h=>h.whole HX2ss.out.dr (fun h=>h)) Tryz.underlying32 rfl (by kernel_rfl)) (h:=?_);refine CR 6 ?_;intro w' aC;have hx:=(Θ _ Wn1).drew.trans aC
 refine(HC.out w' (ag HBs1.out hx)).mono ?_
 rintro e w9 ⟨A9,c9,rfl,M6,sZ,EU⟩
 refine⟨_,rfl,Kept.of_below sZ,?_⟩
 have xK:Hid (σ Wn1.heap.size Wn1 w9):=qh (Ext.trans hx sZ);have rK:=qh M6;have Hc9:=qh EU;obtain⟨N9,Si⟩:=aB L9.length;have HN9:=qh Si;rw[Si] at rK ⊢;clear hx aC M6 sZ EU Si HC;simp only[ξ,aw,ar,aq];refine CR 7 ?_;intro w' aC;have hx:σ Wn1.heap.size Wn1 w':=Ext.trans xK.out aC
 refine(HR.out w' A9 N9 c9 (ag HBs1.out hx) HN9.out.symm ⟨Hc9.out,rK.out.bl aC⟩).mono ?_
 rintro e Nw ⟨A5,c5,B5,k5,Ws,rfl,hdg,hmap,Iv,Ph,Se,oD⟩
 refine⟨_,rfl,Kept.of_below oD,?_⟩
 have HD:=qh hdg;have HM:=qh hmap;have HF:Hid (∀a,A5=ζ a→Wn1.heap.size≤a.block):=qh (fun a ha=>Λ hx.size (Iv a ha));have Hck:=qh (Jax Ph Se);have Ve:Hid (σ Wn1.heap.size Wn1 Nw):=qh (Ext.trans hx oD);clear hx aC hdg hmap Iv Ph Se oD xK rK Hc9 HN9 HR;simp only[ξ,aw,ar,aq];refine qu 8 ?_;intro w' aC;have hx:σ Wn1.heap.size Wn1 w':=Ext.trans Ve.out aC;have hZ:=HX3ss.out.bl hx
 refine⟨w'.setCells b3 0 [γ A5 n c5,γ B5 m k5],qz 25 (.tmp 6) (.tmp 30) rfl b3 0 rfl [γ A5 n c5,γ B5 m k5] rfl (hZ.there_ 0 2 (by decide)) (by kernel_rfl) (by simp[Τ]),?_⟩
 have Bq:∀a,A5=ζ a→0<n→a.block≠b3:=fun a ha _=>by
  have h1:=HF.out a ha;have h2:=HX3ss.out.lt;omega
 have Oe:Hid (bz (w'.setCells b3 0 [γ A5 n c5,γ B5 m k5]) A5 n c5 Ws B5 m k5 Es):=qh (dg_poke (dg_poke (HD.out.bl aC) (hZ.cell (i:=0) rfl) Bq _) ((hZ.set_ 0 _).cell (i:=1) rfl) Bq _);have UP:Hid (Whole (w'.setCells b3 0 [γ A5 n c5,γ B5 m k5]) b3 25 [γ A5 n c5,γ B5 m k5]):=qh ((hZ.set_ 0 (γ A5 n c5)).set_ 1 (γ B5 m k5));have kC:Hid (σ W.heap.size W (w'.setCells b3 0 [γ A5 n c5,γ B5 m k5])):=qh (((ag HBs1.out hx).setCell (p:=⟨b3,0,ε⟩) Lb3.out (γ A5 n c5)).setCell (p:=⟨b3,1,ε⟩) Lb3.out (γ B5 m k5));obtain⟨V5,gV5⟩:=aB (w'.setCells b3 0 [γ A5 n c5,γ B5 m k5]);rw[gV5] at Oe UP kC ⊢;have HF4:Hid (∀a,A5=ζ a→W.heap.size≤a.block):=qh (fun a ha=>Λ HBs1.out.size (HF.out a ha));clear gV5 aC hx hZ Bq HD Ve HF;(try simp only[ξ,aw,ar,aq]);refine gG (by kernel_rfl) ?_ _;intro w8 cg;have HD8:=qh (Oe.out.bl cg);have Tm:=qh (UP.out.bl cg);have nV:=qh (ag kC.out cg);clear cg Oe UP kC;go_wp2;exact dO rfl b3 rfl Tm.out Tryz.underlying25 rfl (by kernel_rfl) rfl ⟨A5,c5,B5,k5,Ws,rfl,HD8.out,HM.out,HF4.out,Hck.out.1,Hck.out.2,nV.out⟩
theorem rremoved_any {W:ο} {A:Option Κ} {n c:Nat} {Vs:List VC} {B:Option Κ} {m k:Nat} {Es:List EC} (h:bz W A n c Vs B m k Es) (hn:n≤1000) (hm:m≤1000) (hr:∀x∈Vs,x.2.1.2.1≤900000) (a1 a2 a3:Int):
 Ζ η 77 #[φ #[γ A n c,γ B m k],φ #[J a1,J a2,J a3]] W (GivesDg W n m (dS (Vs.map vS) (D4 (Vs.map vS) (a1,a2,a3)) (aM (kt (eS (Vs.map vS) (D4 (Vs.map vS) (a1,a2,a3))) (a1,a2,a3)))) Es):=by
 have NO:Hid (∀X,σ W.heap.size W X→Ζ η 29 #[φ #[γ A n c,γ B m k],φ #[J a1,J a2,J a3]] X fun e w'=>e=.returned (Ξ #[φ #[J (lE Vs (a1,a2,a3)).1.1,J (lE Vs (a1,a2,a3)).1.2],Β (lE Vs (a1,a2,a3)).2])∧σ X.heap.size X w'):=qh (fun X hX=>Bl A n c Vs B m k Es a1 a2 a3 X (h.below hX) (by omega) (fun y hy=>by have:=hr y hy;omega));have SU:=congrArg (·.1) (SO Vs (a1,a2,a3));dsimp only at SU;obtain⟨⟨⟨v1,v2⟩,st⟩,gat⟩:∃z,lE Vs (a1,a2,a3)=z:=⟨_,rfl⟩
 rw[gat] at NO SU;clear gat;have HV:Hid (∀X,σ W.heap.size W X→Ζ η 27 #[φ #[γ A n c,γ B m k],φ #[J v1,J v2]] X fun e w'=>e=.returned (Ξ #[φ (vC (eP Vs (v1,v2)).1).toArray,Β (eP Vs (v1,v2)).2])∧σ X.heap.size X w'):=qh (fun X hX=>Vr A n c Vs B m k Es v1 v2 X (h.v.bl hX) (by omega));have ec:=(tK Vs (v1,v2)).2
 have uH:RgOk W (eP Vs (v1,v2)).1.2.1∧(eP Vs (v1,v2)).1.2.1.2.1≤900000:=by
  rcases II (fun v:VC=>v.1) zV Vs (v1,v2) with h1|h1
  ·exact⟨h.r _ h1,hr _ h1⟩
  ·rw[show(eP Vs (v1,v2))=(zV,ρ) from h1];exact⟨⟨by decide,rds_nil_ W _⟩,by decide⟩
 obtain⟨⟨u,ok⟩,gu⟩:∃z,eP Vs (v1,v2)=z:=⟨_,rfl⟩
 rw[gu] at HV ec uH;obtain⟨⟨i1,i2⟩,⟨rA,rn,jg,rL⟩,lb,at_⟩:=u;replace HV:Hid (∀X,σ W.heap.size W X→Ζ η 27 #[φ #[γ A n c,γ B m k],φ #[J v1,J v2]] X fun e w'=>e=.returned (Ξ #[φ #[J i1,J i2,γ rA rn jg,μ lb,J at_],Β ok])∧σ X.heap.size X w'):=HV;obtain⟨uH,kc⟩:=uH;dsimp only at ec uH kc;have qx:rL.length=rn:=by have:=uH.2.len;rw[dj] at this;dsimp only at this;omega
 have HC:Hid (∀X,σ W.heap.size W X→Ζ η 102 #[γ rA rn jg,φ #[J a1,J a2,J a3]] X (GivesC X (aM (kt rL (a1,a2,a3))))):=qh (fun X hX=>rfremovec_any rA rn jg rL (a1,a2,a3) X (uH.2.bl hX) (by omega))
 have wN:(aM (kt rL (a1,a2,a3))).length≤900001:=by
  rw[kB];exact Λ (List.length_filter_le _ _) (by omega)
 have HP:Hid (dS (Vs.map vS) (v1,v2) (aM (kt rL (a1,a2,a3)))=dS (Vs.map vS) (D4 (Vs.map vS) (a1,a2,a3)) (aM (kt (eS (Vs.map vS) (D4 (Vs.map vS) (a1,a2,a3))) (a1,a2,a3)))):=qh (by
  rw[←SU,←ec])
 obtain⟨L9,LD⟩:=aB (aM (kt rL (a1,a2,a3)));rw[LD] at HC HP wN;have HR:Hid (∀X A9 N9 c9,σ W.heap.size W X→N9=L9.length→RgOk X (A9,N9,c9,L9)→Ζ η 99 #[φ #[γ A n c,γ B m k],φ #[J v1,J v2],γ A9 N9 c9] X (GivesDg X n m (dS (Vs.map vS) (v1,v2) L9) Es)):=qh (fun X A9 N9 c9 hX _ hR=>rringed_any (h.below hX) hn hm (fun x hx=>by have:=hr x hx;omega) (v1,v2) (A9,N9,c9,L9) hR);rw[HP.out] at HR;obtain⟨P,gP⟩:=aB (dS (Vs.map vS) (D4 (Vs.map vS) (a1,a2,a3)) (aM (kt (eS (Vs.map vS) (D4 (Vs.map vS) (a1,a2,a3))) (a1,a2,a3))));rw[gP] at HR ⊢;clear h hr gu ec uH kc LD HP gP qx wN SU;show Ζ _ _ _ _ fun e w'=>∃A' c' B' k' Ws,e=.returned (φ #[γ A' n c',γ B' m k'])∧bz w' A' n c' Ws B' m k' Es∧Ws.map vS=P∧(∀a,A'=ζ a→W.heap.size≤a.block)∧c'≤Jap∧k'≤Jap∧σ W.heap.size W w'
 go_enter Tryz.func77,Tryz.ntmps77;go_upto_region 1 with fail
 obtain⟨W0,b0,b1,b2,bO,bp,dE,jc,aQ,aL,aZ,bw,-,-,oa,-,iP,-,eI,uW,RA,tU⟩:=Bs W 25 [γ A n c,γ B m k] 32 [J a1,J a2,J a3] 25 [γ ε 0 0,γ ε 0 0];rw[bO,jc,dE,bp];clear bO bp dE jc;have x0:=aQ.out.cell (i:=0) rfl;have x1:=aQ.out.cell (i:=1) rfl;have y0:=aL.out.cell (i:=0) rfl;have y1:=aL.out.cell (i:=1) rfl;have y2:=aL.out.cell (i:=2) rfl
 go_upto_region 2 with (first
  |(go_at_call 29
    refine(NO.out _ bw.out).mono ?_
    rintro e w2 ⟨rfl,aP⟩;have Zk:=qh aP;clear aP x0 x1 y0 y1 y2))
 have aP:=Zk.out;have HBs0:=qh (aI (ag bw.out aP) (δ #[J v1,J v2] 30));have HX0s:=qh ((aQ.out.bl aP).al (δ #[J v1,J v2] 30));have HX1s:=qh ((aL.out.bl aP).al (δ #[J v1,J v2] 30));have HX2s:=qh ((aZ.out.bl aP).al (δ #[J v1,J v2] 30));have KT:=qh (Whole.new_ w2 30 [J v1,J v2]);obtain⟨Wn0,gWn⟩:=aB (w2.alloc (δ #[J v1,J v2] 30));obtain⟨b3,gbn⟩:=aB w2.heap.size;rw[gWn] at HBs0 KT HX0s HX1s HX2s ⊢;rw[gbn] at KT ⊢;clear gWn gbn aP Zk bw aQ aL aZ NO;have x0:=HX0s.out.cell (i:=0) rfl;have x1:=HX0s.out.cell (i:=1) rfl;have y0:=KT.out.cell (i:=0) rfl;have y1:=KT.out.cell (i:=1) rfl
 go_upto_region 3 with (first
  |(go_at_call 27
    refine(HV.out _ HBs0.out).mono ?_
    rintro e w2 ⟨rfl,aP⟩;have Zk:=qh aP;clear aP x0 x1 y0 y1))
 have aP:=Zk.out;have HBs1:=qh (aI (ag HBs0.out aP) (δ #[J i1,J i2,γ rA rn jg,μ lb,J at_] 59));have HX0ss:=qh ((HX0s.out.bl aP).al (δ #[J i1,J i2,γ rA rn jg,μ lb,J at_] 59));have HX1ss:=qh ((HX1s.out.bl aP).al (δ #[J i1,J i2,γ rA rn jg,μ lb,J at_] 59));have HX2ss:=qh ((HX2s.out.bl aP).al (δ #[J i1,J i2,γ rA rn jg,μ lb,J at_] 59));have HN0s:=qh ((KT.out.bl aP).al (δ #[J i1,J i2,γ rA rn jg,μ lb,J at_] 59));have Ed:=qh (Whole.new_ w2 59 [J i1,J i2,γ rA rn jg,μ lb,J at_]);obtain⟨Wn1,gWn⟩:=aB (w2.alloc (δ #[J i1,J i2,γ rA rn jg,μ lb,J at_] 59));obtain⟨b4,gbn⟩:=aB w2.heap.size;rw[gWn] at HBs1 Ed HX0ss HX1ss HX2ss HN0s ⊢;rw[gbn] at Ed ⊢;clear gWn gbn aP Zk HBs0 HX0s HX1s HX2s KT HV;have pV:=cm (i:=2) Ed.out rfl;refine cI (aO) [7] (by kernel_rfl) ?_;refine S4 0 (hy:=ib (by rfl) 25 (.tmp 2) rfl b0 rfl 25 [γ A n c,γ B m k] _ (fun w' h=>h.whole HX0ss.out.dr (fun h=>h)) Tryz.underlying25 rfl (by kernel_rfl)) (h:=?_);refine S4 1 (hy:=ib (by rfl) 30 (.tmp 5) rfl b3 rfl 30 [J v1,J v2] _ (fun w' h=>h.whole HN0s.out.dr (fun h=>h)) Tryz.underlying30 rfl (by kernel_rfl)) (h:=?_);refine aU 2 ?_;refine aU 3 ?_;refine S4 4 (hy:=ib (by rfl) 32 (.tmp 3) rfl b1 rfl 32 [J a1,J a2,J a3] _ (fun w' h=>h.whole HX1ss.out.dr (fun h=>h)) Tryz.underlying32 rfl (by kernel_rfl)) (h:=?_)
 refine CR 5 ?_;intro w' aC;have hx:=(Θ _ Wn1).drew.trans aC
 refine(HC.out w' (ag HBs1.out hx)).mono ?_
 rintro e w9 ⟨A9,c9,rfl,M6,sZ,EU⟩
 refine⟨_,rfl,Kept.of_below sZ,?_⟩
 have xK:Hid (σ Wn1.heap.size Wn1 w9):=qh (Ext.trans hx sZ);have rK:=qh M6;have Hc9:=qh EU;obtain⟨N9,Si⟩:=aB L9.length;have HN9:=qh Si;rw[Si] at rK ⊢;clear hx aC M6 sZ EU Si HC;simp only[ξ,aw,ar,aq];refine CR 6 ?_;intro w' aC;have hx:σ Wn1.heap.size Wn1 w':=Ext.trans xK.out aC
 refine(HR.out w' A9 N9 c9 (ag HBs1.out hx) HN9.out.symm ⟨Hc9.out,rK.out.bl aC⟩).mono ?_
 rintro e Nw ⟨A5,c5,B5,k5,Ws,rfl,hdg,hmap,Iv,Ph,Se,oD⟩
 refine⟨_,rfl,Kept.of_below oD,?_⟩
 have HD:=qh hdg;have HM:=qh hmap;have HF:Hid (∀a,A5=ζ a→Wn1.heap.size≤a.block):=qh (fun a ha=>Λ hx.size (Iv a ha));have Hck:=qh (Jax Ph Se);have Ve:Hid (σ Wn1.heap.size Wn1 Nw):=qh (Ext.trans hx oD);clear hx aC hdg hmap Iv Ph Se oD xK rK Hc9 HN9 HR;simp only[ξ,aw,ar,aq];refine qu 7 ?_;intro w' aC;have hx:σ Wn1.heap.size Wn1 w':=Ext.trans Ve.out aC;have hZ:=HX2ss.out.bl hx
 refine⟨w'.setCells b2 0 [γ A5 n c5,γ B5 m k5],qz 25 (.tmp 4) (.tmp 27) rfl b2 0 rfl [γ A5 n c5,γ B5 m k5] rfl (hZ.there_ 0 2 (by decide)) (by kernel_rfl) (by simp[Τ]),?_⟩
 have Bq:∀a,A5=ζ a→0<n→a.block≠b2:=fun a ha _=>by
  have h1:=HF.out a ha;have h2:=HX2ss.out.lt;omega
 have Oe:Hid (bz (w'.setCells b2 0 [γ A5 n c5,γ B5 m k5]) A5 n c5 Ws B5 m k5 Es):=qh (dg_poke (dg_poke (HD.out.bl aC) (hZ.cell (i:=0) rfl) Bq _) ((hZ.set_ 0 _).cell (i:=1) rfl) Bq _);have UP:Hid (Whole (w'.setCells b2 0 [γ A5 n c5,γ B5 m k5]) b2 25 [γ A5 n c5,γ B5 m k5]):=qh ((hZ.set_ 0 (γ A5 n c5)).set_ 1 (γ B5 m k5));have kC:Hid (σ W.heap.size W (w'.setCells b2 0 [γ A5 n c5,γ B5 m k5])):=qh (((ag HBs1.out hx).setCell (p:=⟨b2,0,ε⟩) eI.out (γ A5 n c5)).setCell (p:=⟨b2,1,ε⟩) eI.out (γ B5 m k5));obtain⟨V5,gV5⟩:=aB (w'.setCells b2 0 [γ A5 n c5,γ B5 m k5]);rw[gV5] at Oe UP kC ⊢;have HF4:Hid (∀a,A5=ζ a→W.heap.size≤a.block):=qh (fun a ha=>Λ HBs1.out.size (HF.out a ha));clear gV5 aC hx hZ Bq HD Ve HF;(try simp only[ξ,aw,ar,aq]);refine gG (by kernel_rfl) ?_ _;intro w8 cg;have HD8:=qh (Oe.out.bl cg);have Tm:=qh (UP.out.bl cg);have nV:=qh (ag kC.out cg);clear cg Oe UP kC;go_wp2;exact dO rfl b2 rfl Tm.out Tryz.underlying25 rfl (by kernel_rfl) rfl ⟨A5,c5,B5,k5,Ws,rfl,HD8.out,HM.out,HF4.out,Hck.out.1,Hck.out.2,nV.out⟩
end Go.Proofs.YtpdpbfmiahjiiaaGreat
