/- Several texts in one. -/
import Derived.Test.YtpdpbfmiahjiiaaGreatPpAA
import Derived.Test.YtpdpbfmiahjiiaaGreatPpAB
import Derived.Test.YtpdpbfmiahjiiaaGreatPpAC
import Derived.Test.YtpdpbfmiahjiiaaGreatPpAD
import Derived.Test.YtpdpbfmiahjiiaaGreatPpAE
import Derived.Deep.LoopGhost
import Derived.Deep.RegionLaw
import Derived.Lib.SliceRun
set_option linter.unusedSectionVars false
set_option linter.unusedSimpArgs false
set_option linter.unusedVariables false
set_option maxRecDepth 100000
set_option maxHeartbeats 16000000
namespace Go.Proofs.YtpdpbfmiahjiiaaGreat
open Go.RowKit
open _root_.Go.Value renaming slice→γ,string→μ,tuple→Ξ,slice→Ο,oneCell'→Τ,agg→JbL
open _root_.Go.Obj renaming cells→δ
open _root_.Option renaming none→ε,some→ζ
open _root_.Go.Proofs.Tryz renaming prog→η
open _root_.List renaming getElem?_eq_some_iff→ν,length_append→Ε,take_of_length_le→Ι,getElem?_append_left→Jab,drop_of_length_le→Jak,append_assoc→Jay,length_drop→Jaz,length_take→JaA,nil_append→JaF,drop_append→JaR,getElem?_drop→JaS,take_append_drop→Jbf,append_nil→Jbi,take_append→Jbt,mem_of_mem_drop→JbC,take_zero→JbQ
open _root_.Go.Act renaming put→ξ
open _root_.Go renaming World→ο,Value→ψ,Calls→Ζ,Addr→Κ,maxLen→Jap
open _root_.Bool renaming false→ρ,true→τ
open _root_.Go.RowKit renaming Below→σ
open _root_.Go.RowKit.Below renaming refl→Θ
open _root_.Nat renaming le_trans→Λ,zero_add→JaI,lt_or_ge→JaM,sub_self→JaP,min_def→JbR
open _root_.Go.Addr renaming add_lit→Ν
open _root_.Go.IntKind renaming i64→Jaw,wrap_i64→JaT
open _root_.Go.Builtin renaming zeroCells→JaO,append_→JaY,copy_→Jbr
open _root_.Go.Departure renaming mixedOrders→JbG
theorem qt {W w':ο} {b:Nat} (h:Kept (fun x=>x=b) W w'):W.grownBy w' (ζ b):=⟨h.os,h.tape,h.output,h.size,fun i hi cu=>h.block i hi (fun e=>cu (by rw[e]))⟩
theorem tn {W w':ο} {r:Option Nat} (h:σ W.heap.size W w'):W.grownBy w' r:=⟨h.os,h.tape,h.output,h.size,fun i hi _=>h.block i hi⟩
theorem GM:(η.info? 59).map (fun i=>(i.zero,i.size,i.bytes))=ζ (ζ (JbL #[J 0,J 0,γ ε 0 0,μ {data:=#[]},J 0]),5,64):=by kernel_rfl
theorem Qj (x:VC):aj vC [x]=vC x:=by simp[aj]
theorem Bl {w W:ο} {B:Nat} {A:Option Κ} {n c vb:Nat} {G:List VC} (x:VC) (hO:Ow w B 59 5 (γ A n c) n (aj vC G) W) (hx:aX W W.heap.size 5 (ζ ⟨vb,0,ε⟩) 1 1 (aj vC [x])) (hn:n≤1000):
 Ζ η 138 #[γ A n c,J (n:Int),γ (ζ ⟨vb,0,ε⟩) 1 1] W fun e w'=>∃A' c',e=.returned (γ A' (n+1) c')∧Ow w B 59 5 (γ A' (n+1) c') (n+1) (aj vC (G++[x])) w'∧W.grownBy w' (Ο A n c).ownBlock:=by
 obtain⟨iG,uZ,pN,ki,nf⟩:=aW GM;have HO:=qh hO;have HL:=qh hx;have tt:n≤c:=(aJ hO.own).le;have qM:=fO hO.own;unfold Jap at qM;have e1:((n:Int)==(n:Int))=τ:=by simp
 clear hO hx
 by_cases YU:c=n
 ·go_enter Tryz.func138,Tryz.ntmps138
  go_wp2_with (first
   |(at_builtin
     refine en rfl (.tmp 23) (.tmp 24) _ rfl _ 59 iG _ 5 64 Tryz.underlying22 uZ pN ki nf rfl (by decide) _ _ _ rfl HO.out _ _ _ _ _ rfl HL.out (cz vC kA [x]) (by unfold Jap;omega) (by omega) ?_;intro v5 W5 jY fB sg;obtain⟨A5,c5,rfl,-⟩:=jY.rds;have ku:=qh jY;have IJ:=qh sg;clear jY fB sg))
  go_ret;exact⟨_,_,rfl,by rw[bV];exact ku.out,IJ.out⟩
 ·go_enter Tryz.func138,Tryz.ntmps138
  go_wp2_with (first
   |(at_builtin
     refine en rfl (.tmp 23) (.tmp 24) _ rfl _ 59 iG _ 5 64 Tryz.underlying22 uZ pN ki nf rfl (by decide) _ _ _ rfl HO.out _ _ _ _ _ rfl HL.out (cz vC kA [x]) (by unfold Jap;omega) (by omega) ?_;intro v5 W5 jY fB sg;obtain⟨A5,c5,rfl,-⟩:=jY.rds;have ku:=qh jY;have IJ:=qh sg;clear jY fB sg))
  go_ret;exact⟨_,_,rfl,by rw[bV];exact ku.out,IJ.out⟩
theorem JN (rows junk new:List ψ) (i n:Nat) (hr:rows.length=n*5) (hi:i<n) (hj:5≤junk.length) (hn:new.length=5):
 dB (dB (rows++junk) ((i+1)*5) (rows.drop (i*5))) (i*5) new=(rows.take (i*5)++(new++rows.drop (i*5)))++junk.drop 5:=by
 obtain⟨P,hP⟩:=ay (rows.take (i*5));obtain⟨S,hS⟩:=ay (rows.drop (i*5));have ZL:rows=P++S:=by rw[←hP,←hS,Jbf]
 have PL:P.length=i*5:=by rw[←hP,JaA];omega
 have hSl:S.length=(n - i)*5:=by rw[←hS,Jaz];omega
 rw[hP,hS,ZL]
 have e1:dB (P++S++junk) ((i+1)*5) S=P++((S++junk).take 5++(S++junk.drop 5)):=by
  unfold dB;rw[Jay P S junk,Jbt,JaR,PL];rw[Ι (by omega),Jak (by omega),JaF,Jay];rw[show(i+1)*5 - i*5=5 by omega];congr 2;rw[JaR,Jak (by omega),JaF];rw[show(i+1)*5+S.length - i*5 - S.length=5 by omega]
 rw[e1];unfold dB;have FL:((S++junk).take 5).length=5:=by rw[JaA,Ε];omega
 rw[Jbt,JaR,PL,hn,JaP,JbQ,Jbi,Ι (by omega),Jak (by omega),JaF];rw[show i*5+5 - i*5=5 by omega,JaR,FL,Jak (by omega),JaF,JaP,List.drop_zero];simp[Jay]
theorem nT {G:List VC} (i:Nat):(aj vC G).take (i*5)=aj vC (G.take i)∧(aj vC G).drop (i*5)=aj vC (G.drop i):=⟨(jj vC aQ G i).symm,(ly vC aQ G i).symm⟩
theorem zg {w W:ο} {B:Nat} {A:Option Κ} {n c vb i:Nat} {G:List VC} (x:VC) (hO:Ow w B 59 5 (γ A n c) n (aj vC G) W) (hx:Whole W vb 59 (vC x)) (cu:ζ vb≠(Ο A n c).ownBlock) (hn:n≤1000) (hi:i<n) (Dx:n+1≤c):
 Ζ η 138 #[γ A n c,J (i:Int),γ (ζ ⟨vb,0,ε⟩) 1 1] W fun e w'=>∃A' c',e=.returned (γ A' (n+1) c')∧Ow w B 59 5 (γ A' (n+1) c') (n+1) (aj vC (G.take i++x::G.drop i)) w'∧W.grownBy w' (Ο A n c).ownBlock:=by
 obtain⟨iG,uZ,pN,ki,nf⟩:=aW GM;obtain⟨b,junk,rfl,fV,hW,o7,tt,qM,na⟩:=dZ hO.own (by omega);have sY:vb≠b:=fun e=>cu (by rw[e];rfl)
 have yY:(c - n)*5=junk.length:=by rw[Ε,na] at o7;rw[Nat.sub_mul];omega
 have R5:5≤junk.length:=by rw[←yY];omega
 unfold Jap at qM;have AS:(aj vC G++junk).length=c*5:=o7;have kU:(n - i)*5=((aj vC G).drop (i*5)).length:=by rw[Jaz,na,←Nat.sub_mul]
 have mo:(η.info? 59).map (·.size)=ζ 5:=by rw[uZ];simp[ki]
 have zp:∀w,(Go.sizeOf 59).run η w=.ok 5 w:=fun w=>by simp[sizeOf,typeInfo,uZ,ki]
 have Sq:∀lb cb,(callFunc 156 #[γ (ζ ⟨vb,0,ε⟩) 1 1,γ (ζ ⟨b,(i+1)*5,ε⟩) lb cb]).run η W=.ok (.value (.bool ρ)) W:=fun lb cb=>by
  rw[run_callFunc_extern Tryz.func156 (by kernel_rfl) (by kernel_rfl) (by kernel_rfl) (e:=Extern.SlicesOverlaps.overlaps #[22,22] #[4]) (by kernel_rfl),
   Lib.run_overlaps_apart W 22 4 59 Tryz.underlying22 5 zp ⟨vb,0,ε⟩ ⟨b,(i+1)*5,ε⟩ 1 1 lb cb sY 59 59 _ _ (jl hx) (jl hW) (by rw[o7];omega) (hx.free 0) (hx.free _)]
  rfl
 have zR:∀v∈(aj vC G).drop (i*5),v.oneCell'=τ:=fun v hv=>cz vC kA G v (JbC hv)
 have CR:∀ty dc sc,(Jbr #[22,22] ty #[γ (ζ ⟨b,(i+1)*5,ε⟩) (n - i) dc,γ (ζ ⟨b,i*5,ε⟩) (n+1 - i) sc]).run η W.drew=.ok (goInt (n - i:Nat)) (W.drew.setCells b ((i+1)*5) ((aj vC G).drop (i*5))):=fun ty dc sc=>
  dL W.drew _ _ ty 59 5 b ((i+1)*5) (n - i) dc ⟨b,i*5,ε⟩ (n+1 - i) sc (n - i) _ Tryz.underlying22 mo (by simp only[JbR];split<;>omega) kU
   (fun j v hj=>by
     rw[Ν];rw[JaS] at hj;exact hW.dr.cell (i:=i*5+j) (by rw[Jab (by have:=(ν.1 hj).1;omega)];exact hj))
   (fun j hj=>eG hW.dr (by rw[←kU] at hj;rw[AS];omega)) (fun j hj=>hW.dr.free _) zR
 have ui:=hW.dr.cells_ ((aj vC G).drop (i*5)) ((i+1)*5) W.drew _ (by rw[←kU,AS];omega);obtain⟨W1,aO⟩:=ay (W.drew.setCells b ((i+1)*5) ((aj vC G).drop (i*5)));have lj:Whole W1 vb 59 (vC x):=aO▸hx.dr.cells_far sY _ _;have e8:σ w.heap.size w W1:=aO▸below_setCells hO.below.drew (Λ hO.lo fV) _ _;have Dy:W1.heap.size=W.heap.size:=by rw[←aO,cg];rfl
 rw[aO] at CR ui;have bM:(dB (aj vC G++junk) ((i+1)*5) ((aj vC G).drop (i*5))).length=c*5:=by rw[fD _ _ _ (by rw[←kU,AS];omega),AS]
 have LM:∀ty dc,(Jbr #[22,22] ty #[γ (ζ ⟨b,i*5,ε⟩) (n+1 - i) dc,γ (ζ ⟨vb,0,ε⟩) 1 1]).run η W1=.ok (goInt (1:Nat)) (W1.setCells b (i*5) (vC x)):=fun ty dc=>
  dL W1 _ _ ty 59 5 b (i*5) (n+1 - i) dc ⟨vb,0,ε⟩ 1 1 1 _ Tryz.underlying22 mo (by simp only[JbR];split<;>omega) rfl
   (fun j v hj=>by
     rw[Ν,JaI];exact lj.cell hj)
   (fun j hj=>eG ui (by rw[bM];rw[aQ] at hj;omega)) (fun j hj=>ui.free _) (kA x)
 have Eu:=ui.cells_ (vC x) (i*5) W1 _ (by rw[bM,aQ];omega);rw[JN (aj vC G) junk (vC x) i n na hi R5 (aQ x),(nT i).1,(nT i).2] at Eu;have jn:aj vC (G.take i)++(vC x++aj vC (G.drop i))=aj vC (G.take i++x::G.drop i):=by rw[bV];rfl
 rw[jn] at Eu;have Pw:G.length=n:=(aJ hO.own).rlen aQ (by decide)
 have ji:(aj vC (G.take i++x::G.drop i)).length=(n+1)*5:=by
  rw[←jn,Ε,Ε,←(nT i).1,←(nT i).2,JaA,Jaz,na,aQ];omega
 have HF:Hid (Ow w B 59 5 (γ (ζ ⟨b,0,ε⟩) (n+1) c) (n+1) (aj vC (G.take i++x::G.drop i)) (W1.setCells b (i*5) (vC x))):=qh
  ⟨kG (junk:=junk.drop 5) Eu fV (by rw[Ε,ji,Jaz,←yY];omega) Dx (by unfold Jap;omega) ji,
   below_setCells e8 (Λ hO.lo fV) _ _,hO.lo,by rw[cg,Dy];exact hO.hi⟩
 have OO:Hid (W.grownBy (W1.setCells b (i*5) (vC x)) (ζ b)):=qh (by
  rw[←aO];exact qt (((Kept.refl (fun x=>x=b) W).drew).trans ((eQ (S:=fun x=>x=b) rfl _ _).trans (eQ (S:=fun x=>x=b) rfl _ _))))
 have kd:¬((i:Int)=(n:Int)):=by omega
 have jo:Jaw.wrap ((i:Int)+1)=(i:Int)+1:=by rw[JaT];omega
 have jd:Jaw.wrap ((n:Int)+1)=(n:Int)+1:=by rw[JaT];omega
 have e8:(0:Int)≤(i:Int)+1:=by omega
 have lh:i≤n:=by omega
 have Ma:((i:Int)+1).toNat=i+1:=by omega
 have ZC:((n:Int)+1).toNat=n+1:=by omega
 have ar:¬(c=i+1):=by omega
 have bC:(i:Int)≤(n:Int)+1:=by omega
 have kv:¬(c=i):=by omega
 have fB:¬(c:Int)<(n:Int)+1:=by omega
 have eP:(n:Int)+1≤(c:Int):=by omega
 have mixed:η.follows JbG=τ:=by kernel_rfl
 clear hO hx cu hW o7 na sY yY R5 AS kU mo zp zR ui aO lj bM Eu jn Pw ji Dy;go_enter Tryz.func138,Tryz.ntmps138;go_wp2_with (simp only[Sq])
 go_region_law_o (refine step_copy_runI rfl _ _ 22 22 rfl _ _ (by simp[Act.eval,ξ]) (by simp[Act.eval,ξ]) (CR _ _ _) ?_);go_wp2_with (at_builtin;refine wpList_copy_runI _ rfl _ _ 22 22 rfl _ _ rfl rfl (LM _ _) ?_)
 go_ret;exact⟨_,_,rfl,HF.out,OO.out⟩
theorem Gk (P Z new S:List ψ) (i:Nat) (hP:P.length=i*5) (hn:new.length=5) (hZ:5+S.length≤Z.length):
 dB (dB (P++Z) (i*5) new) ((i+1)*5) S=(P++(new++S))++Z.drop (5+S.length):=by
 have e1:dB (P++Z) (i*5) new=(P++new)++Z.drop 5:=by
  unfold dB;rw[Jbt,JaR,hP,hn,JaP,JbQ,Jbi,Ι (by omega),Jak (by omega),JaF];rw[show i*5+5 - i*5=5 by omega,Jay]
 have hl:(P++new).length=(i+1)*5:=by rw[Ε,hP,hn];omega
 rw[e1];unfold dB;rw[Jbt,JaR,hl,JaP,JbQ,Jbi,Ι (by omega),Jak (by omega),JaF];rw[show(i+1)*5+S.length - (i+1)*5=S.length by omega,List.drop_drop];simp[Jay]
theorem Ec (k:Nat):(JaO (JbL #[J 0,J 0,γ ε 0 0,μ {data:=#[]},J 0]).cells k).size=k*5:=by
 simp[JaO,Value.cells]
theorem zl {w W:ο} {B:Nat} {A:Option Κ} {n vb i:Nat} {G:List VC} (x:VC) (hO:Ow w B 59 5 (γ A n n) n (aj vC G) W) (hx:Whole W vb 59 (vC x)) (hn:n≤1000) (hi:i<n):
 Ζ η 138 #[γ A n n,J (i:Int),γ (ζ ⟨vb,0,ε⟩) 1 1] W fun e w'=>∃A' c',e=.returned (γ A' (n+1) c')∧Ow w B 59 5 (γ A' (n+1) c') (n+1) (aj vC (G.take i++x::G.drop i)) w'∧W.grownBy w' (Ο A n n).ownBlock:=by
 obtain⟨iG,uZ,pN,ki,nf⟩:=aW GM;obtain⟨b,junk,rfl,fV,hW,o7,tt,qM,na⟩:=dZ hO.own (by omega);have kU:(n - i)*5=((aj vC G).drop (i*5)).length:=by rw[Jaz,na,←Nat.sub_mul]
 have bM:((aj vC G).take (i*5)).length=i*5:=by rw[JaA,na];omega
 have mo:(η.info? 59).map (·.size)=ζ 5:=by rw[uZ];simp[ki]
 have NR:i+(n+1 - i)=n+1:=by omega
 have LA:(n:Int)+1 - (i:Int)=((n+1 - i:Nat):Int):=by omega
 have zR:∀v∈(aj vC G).drop (i*5),v.oneCell'=τ:=fun v hv=>cz vC kA G v (JbC hv)
 have hold:(Builtin.firstCells iG.size i (γ (ζ ⟨b,0,ε⟩) i n)).run η W.drew=.ok ((aj vC G).take (i*5)).toArray W.drew:=by
  rw[ki]
  exact run_firstCells_some W.drew 5 i ⟨b,0,ε⟩ i n _ bM (fun j v hj=>by
   rw[Ν,JaI];rw[List.getElem?_take] at hj;split at hj
   ·exact hW.dr.cell (i:=j) (by rw[Jab (ν.1 hj).1];exact hj)
   ·cases hj)
 obtain⟨g,hg⟩:=ay W.heap.size;obtain⟨GC,Jn⟩:=ay (grownCap W (n+1) n 59);have Za:n+1≤GC:=by rw[←Jn];exact grownCap_ge W _ _ _
 have CZ:GC≤Jap:=by rw[←Jn];exact grownCap_le_maxLen W (n+1) n 59 (by unfold Jap;omega)
 obtain⟨sG,x7⟩:=ay (((aj vC G).take (i*5)).toArray++JaO (JbL #[J 0,J 0,γ ε 0 0,μ {data:=#[]},J 0]).cells (n+1 - i)++JaO (JbL #[J 0,J 0,γ ε 0 0,μ {data:=#[]},J 0]).cells (GC - (n+1)))
 have SI:∀ty,(JaY #[22,3] ty #[γ (ζ ⟨b,0,ε⟩) i n,J ((n:Int)+1 - (i:Int))]).run η W=.ok (γ (ζ ⟨g,0,ε⟩) (n+1) GC) (W.drew.alloc (δ sG 59)):=fun ty=>by
  have h:=Lib.run_append_grow_zeros W 22 3 ty 59 iG _ .i64 .i64 Tryz.underlying22 Tryz.underlying3 uZ pN (ζ ⟨b,0,ε⟩) i n _ hold (n+1 - i) (by omega) (by omega) (by omega) (by omega) (by rw[nf];omega) (by rw[nf,NR];exact growslice_fits (by omega) (by omega));rw[NR,hg,Jn,x7] at h;rw[LA];exact h
 obtain⟨Z,hZ⟩:=ay ((JaO (JbL #[J 0,J 0,γ ε 0 0,μ {data:=#[]},J 0]).cells (n+1 - i)++JaO (JbL #[J 0,J 0,γ ε 0 0,μ {data:=#[]},J 0]).cells (GC - (n+1))).toList)
 have G4:Z.length=(GC - i)*5:=by
  rw[←hZ,Array.length_toList,Array.size_append,Ec,Ec];omega
 have MB:sG=((aj vC G).take (i*5)++Z).toArray:=by
  rw[←x7,←hZ];simp
 have RL:b≠g:=by have:=hW.lt;omega
 have WD:vb≠g:=by have:=hx.lt;omega
 obtain⟨P,hP⟩:=ay ((aj vC G).take (i*5));obtain⟨S,hS⟩:=ay ((aj vC G).drop (i*5));rw[hP] at bM MB;rw[hS] at kU zR;have Er:(P++Z).length=GC*5:=by rw[Ε,bM,G4];omega
 have BZ:Whole (W.drew.alloc (δ sG 59)) g 59 (P++Z):=by
  rw[MB];exact Whole.new2 hg.symm
 have OV:Whole (W.drew.alloc (δ sG 59)) vb 59 (vC x):=hx.dr.alloc _;have NC:Whole (W.drew.alloc (δ sG 59)) b 59 (aj vC G++junk):=hW.dr.alloc _;have Yp:=hO.below.size;have qR:σ w.heap.size w (W.drew.alloc (δ sG 59)):=aE (aL hO.below) _;have jL:(W.drew.alloc (δ sG 59)).heap.size=W.heap.size+1:=by simp
 have Vw:σ W.heap.size W (W.drew.alloc (δ sG 59)):=aE (aL (Θ _ _)) _;obtain⟨V1,kN⟩:=ay (W.drew.alloc (δ sG 59));rw[kN] at BZ OV NC qR jL SI Vw
 have xq:∀V,V=V1→∀ty dc,(Jbr #[22,22] ty #[γ (ζ ⟨g,i*5,ε⟩) (n+1 - i) dc,γ (ζ ⟨vb,0,ε⟩) 1 1]).run η V=.ok (goInt (1:Nat)) (V1.setCells g (i*5) (vC x)):=fun V hV ty dc=>by
  subst hV
  exact dL V _ _ ty 59 5 g (i*5) (n+1 - i) dc ⟨vb,0,ε⟩ 1 1 1 _ Tryz.underlying22 mo (by simp only[JbR];split<;>omega) rfl
   (fun j v hj=>by
     rw[Ν,JaI];exact OV.cell hj)
   (fun j hj=>eG BZ (by rw[Er];rw[aQ] at hj;omega)) (fun j hj=>BZ.free _) (kA x)
 have Cu:=BZ.cells_ (vC x) (i*5) V1 _ (by rw[Er,aQ];omega);have Ns:Whole (V1.setCells g (i*5) (vC x)) b 59 (aj vC G++junk):=NC.cells_far RL _ _;have ox:σ w.heap.size w (V1.setCells g (i*5) (vC x)):=below_setCells qR (by omega) _ _;have Ty:σ W.heap.size W (V1.setCells g (i*5) (vC x)):=below_setCells Vw (by omega) _ _;have kd:(V1.setCells g (i*5) (vC x)).heap.size=W.heap.size+1:=by rw[cg,jL]
 obtain⟨V2,Ji⟩:=ay (V1.setCells g (i*5) (vC x));rw[Ji] at Cu Ns ox kd xq Ty;have wv:(dB (P++Z) (i*5) (vC x)).length=GC*5:=by rw[fD _ _ _ (by rw[Er,aQ];omega),Er]
 have ME:∀ty dc sc,(Jbr #[22,22] ty #[γ (ζ ⟨g,(i+1)*5,ε⟩) (n - i) dc,γ (ζ ⟨b,i*5,ε⟩) (n - i) sc]).run η V2.drew=.ok (goInt (n - i:Nat)) (V2.drew.setCells g ((i+1)*5) S):=fun ty dc sc=>
  dL V2.drew _ _ ty 59 5 g ((i+1)*5) (n - i) dc ⟨b,i*5,ε⟩ (n - i) sc (n - i) _ Tryz.underlying22 mo (by simp only[JbR];split<;>omega) kU
   (fun j v hj=>by
     rw[Ν];rw[←hS,JaS] at hj;exact Ns.dr.cell (i:=i*5+j) (by rw[Jab (ν.1 hj).1];exact hj))
   (fun j hj=>eG Cu.dr (by rw[←kU] at hj;rw[wv];omega)) (fun j hj=>Cu.dr.free _) zR
 have MU:=Cu.dr.cells_ S ((i+1)*5) V2.drew _ (by rw[←kU,wv];omega);rw[Gk P Z (vC x) S i bM (aQ x) (by rw[←kU,G4];omega)] at MU;have jn:P++(vC x++S)=aj vC (G.take i++x::G.drop i):=by rw[←hP,←hS,(nT i).1,(nT i).2,bV];rfl
 have ji:(P++(vC x++S)).length=(n+1)*5:=by rw[Ε,Ε,bM,aQ,←kU];omega
 have EE:(Z.drop (5+S.length)).length=(GC - (n+1))*5:=by rw[Jaz,G4,←kU];omega
 have HF:Hid (Ow w B 59 5 (γ (ζ ⟨g,0,ε⟩) (n+1) GC) (n+1) (aj vC (G.take i++x::G.drop i)) (V2.drew.setCells g ((i+1)*5) S)):=qh (by
  rw[←jn];exact⟨kG (junk:=Z.drop (5+S.length)) MU (by have:=hO.hi;omega) (by rw[Ε,ji,EE];omega) Za CZ ji,below_setCells (aL ox) (by omega) _ _,hO.lo,by rw[cg];show B≤V2.heap.size;have:=hO.hi;omega⟩)
 have OO:Hid (W.grownBy (V2.drew.setCells g ((i+1)*5) S) (ζ b)):=qh (tn (below_setCells (aL Ty) (by omega) _ _));have hz3:¬((i:Int)=(n:Int)):=by omega
 have jo:Jaw.wrap ((i:Int)+1)=(i:Int)+1:=by rw[JaT];omega
 have jd:Jaw.wrap ((n:Int)+1)=(n:Int)+1:=by rw[JaT];omega
 have fu:Jaw.wrap ((n:Int)+1 - (i:Int))=(n:Int)+1 - (i:Int):=by rw[JaT];omega
 have e8:(0:Int)≤(i:Int)+1:=by omega
 have lh:i≤n:=by omega
 have Ma:((i:Int)+1).toNat=i+1:=by omega
 have ar:¬(GC=i+1):=by omega
 have bC:(i:Int)≤(n:Int):=by omega
 have kv:¬(n=i):=by omega
 have fB:¬(GC=i):=by omega
 have eP:(n:Int)<(n:Int)+1:=by omega
 unfold Jap at CZ;have mixed:η.follows JbG=τ:=by kernel_rfl
 subst kN;have MO:∀ty dc,(Jbr #[22,22] ty #[γ (ζ ⟨g,i*5,ε⟩) (n+1 - i) dc,γ (ζ ⟨vb,0,ε⟩) 1 1]).run η (W.alloc (δ sG 59)).drew=.ok (goInt (1:Nat)) V2:=fun ty dc=>xq _ rfl ty dc
 clear xq Ji;clear hO hx hW o7 na WD RL kU mo zR hold bM NR LA x7 G4 MB hZ Er BZ OV NC qR jL Vw Ty Cu Ns ox kd wv MU jn ji EE hP hS Jn Yp;go_enter Tryz.func138,Tryz.ntmps138
 go_wp2_with (first
  |(at_builtin;refine Lib.wpList_append_run _ rfl _ _ _ _ rfl _ _ rfl rfl _ _ (SI _) ?_)
  |(at_builtin;refine wpList_copy_runI _ rfl _ _ 22 22 rfl _ _ rfl rfl (MO _ _) ?_))
 go_region_law_o (refine step_copy_runI rfl _ _ 22 22 rfl _ _ (by simp[Act.eval,ξ]) (by simp[Act.eval,ξ]) (ME _ _ _) ?_);go_wp2;go_ret;exact⟨_,_,rfl,HF.out,OO.out⟩
theorem Bi {w W:ο} {B:Nat} {A:Option Κ} {n c vb i:Nat} {G:List VC} (x:VC) (hO:Ow w B 59 5 (γ A n c) n (aj vC G) W) (hx:Whole W vb 59 (vC x)) (cu:ζ vb≠(Ο A n c).ownBlock) (hn:n≤1000) (hi:i≤n):
 Ζ η 138 #[γ A n c,J (i:Int),γ (ζ ⟨vb,0,ε⟩) 1 1] W fun e w'=>∃A' c',e=.returned (γ A' (n+1) c')∧Ow w B 59 5 (γ A' (n+1) c') (n+1) (aj vC (G.take i++x::G.drop i)) w'∧W.grownBy w' (Ο A n c).ownBlock:=by
 have tt:n≤c:=(aJ hO.own).le;have Pw:G.length=n:=(aJ hO.own).rlen aQ (by decide);rcases JaM i n with h|h
 ·rcases JaM n c with h2|h2
  ·exact zg x hO hx cu hn h h2
  ·obtain rfl:n=c:=by omega
   exact zl x hO hx hn h
 ·obtain rfl:n=i:=by omega
  rw[Ι (by omega),Jak (by omega)];exact Bl x hO (by rw[Qj];exact aX.of_whole hx rfl) hn
theorem F5:(η.info? 67).map (fun i=>(i.zero,i.size,i.bytes))=ζ (ζ (JbL #[J 0,J 0,μ {data:=#[]},J 0]),4,40):=by kernel_rfl
theorem QB (x:EC):aj eC [x]=eC x:=by simp[aj]
theorem AJ {w W:ο} {B:Nat} {A:Option Κ} {n c vb:Nat} {G:List EC} (x:EC) (hO:Ow w B 67 4 (γ A n c) n (aj eC G) W) (hx:aX W W.heap.size 4 (ζ ⟨vb,0,ε⟩) 1 1 (aj eC [x])) (hn:n≤1000):
 Ζ η 147 #[γ A n c,J (n:Int),γ (ζ ⟨vb,0,ε⟩) 1 1] W fun e w'=>∃A' c',e=.returned (γ A' (n+1) c')∧Ow w B 67 4 (γ A' (n+1) c') (n+1) (aj eC (G++[x])) w'∧W.grownBy w' (Ο A n c).ownBlock:=by
 obtain⟨iG,uZ,pN,ki,nf⟩:=aW F5;have HO:=qh hO;have HL:=qh hx;have tt:n≤c:=(aJ hO.own).le;have qM:=fO hO.own;unfold Jap at qM;have e1:((n:Int)==(n:Int))=τ:=by simp
 clear hO hx
 by_cases YU:c=n
 ·go_enter Tryz.func147,Tryz.ntmps147
  go_wp2_with (first
   |(at_builtin
     refine en rfl (.tmp 23) (.tmp 24) _ rfl _ 67 iG _ 4 40 Tryz.underlying23 uZ pN ki nf rfl (by decide) _ _ _ rfl HO.out _ _ _ _ _ rfl HL.out (cz eC jX [x]) (by unfold Jap;omega) (by omega) ?_;intro v5 W5 jY fB sg;obtain⟨A5,c5,rfl,-⟩:=jY.rds;have ku:=qh jY;have IJ:=qh sg;clear jY fB sg))
  go_ret;exact⟨_,_,rfl,by rw[bV];exact ku.out,IJ.out⟩
 ·go_enter Tryz.func147,Tryz.ntmps147
  go_wp2_with (first
   |(at_builtin
     refine en rfl (.tmp 23) (.tmp 24) _ rfl _ 67 iG _ 4 40 Tryz.underlying23 uZ pN ki nf rfl (by decide) _ _ _ rfl HO.out _ _ _ _ _ rfl HL.out (cz eC jX [x]) (by unfold Jap;omega) (by omega) ?_;intro v5 W5 jY fB sg;obtain⟨A5,c5,rfl,-⟩:=jY.rds;have ku:=qh jY;have IJ:=qh sg;clear jY fB sg))
  go_ret;exact⟨_,_,rfl,by rw[bV];exact ku.out,IJ.out⟩
theorem Kj (rows junk new:List ψ) (i n:Nat) (hr:rows.length=n*4) (hi:i<n) (hj:4≤junk.length) (hn:new.length=4):
 dB (dB (rows++junk) ((i+1)*4) (rows.drop (i*4))) (i*4) new=(rows.take (i*4)++(new++rows.drop (i*4)))++junk.drop 4:=by
 obtain⟨P,hP⟩:=ay (rows.take (i*4));obtain⟨S,hS⟩:=ay (rows.drop (i*4));have ZL:rows=P++S:=by rw[←hP,←hS,Jbf]
 have PL:P.length=i*4:=by rw[←hP,JaA];omega
 have hSl:S.length=(n - i)*4:=by rw[←hS,Jaz];omega
 rw[hP,hS,ZL]
 have e1:dB (P++S++junk) ((i+1)*4) S=P++((S++junk).take 4++(S++junk.drop 4)):=by
  unfold dB;rw[Jay P S junk,Jbt,JaR,PL];rw[Ι (by omega),Jak (by omega),JaF,Jay];rw[show(i+1)*4 - i*4=4 by omega];congr 2;rw[JaR,Jak (by omega),JaF];rw[show(i+1)*4+S.length - i*4 - S.length=4 by omega]
 rw[e1];unfold dB;have FL:((S++junk).take 4).length=4:=by rw[JaA,Ε];omega
 rw[Jbt,JaR,PL,hn,JaP,JbQ,Jbi,Ι (by omega),Jak (by omega),JaF];rw[show i*4+4 - i*4=4 by omega,JaR,FL,Jak (by omega),JaF,JaP,List.drop_zero];simp[Jay]
theorem nI {G:List EC} (i:Nat):(aj eC G).take (i*4)=aj eC (G.take i)∧(aj eC G).drop (i*4)=aj eC (G.drop i):=⟨(jj eC bF G i).symm,(ly eC bF G i).symm⟩
theorem yI {w W:ο} {B:Nat} {A:Option Κ} {n c vb i:Nat} {G:List EC} (x:EC) (hO:Ow w B 67 4 (γ A n c) n (aj eC G) W) (hx:Whole W vb 67 (eC x)) (cu:ζ vb≠(Ο A n c).ownBlock) (hn:n≤1000) (hi:i<n) (Dx:n+1≤c):
 Ζ η 147 #[γ A n c,J (i:Int),γ (ζ ⟨vb,0,ε⟩) 1 1] W fun e w'=>∃A' c',e=.returned (γ A' (n+1) c')∧Ow w B 67 4 (γ A' (n+1) c') (n+1) (aj eC (G.take i++x::G.drop i)) w'∧W.grownBy w' (Ο A n c).ownBlock:=by
 obtain⟨iG,uZ,pN,ki,nf⟩:=aW F5;obtain⟨b,junk,rfl,fV,hW,o7,tt,qM,na⟩:=dZ hO.own (by omega);have sY:vb≠b:=fun e=>cu (by rw[e];rfl)
 have yY:(c - n)*4=junk.length:=by rw[Ε,na] at o7;rw[Nat.sub_mul];omega
 have R5:4≤junk.length:=by rw[←yY];omega
 unfold Jap at qM;have AS:(aj eC G++junk).length=c*4:=o7;have kU:(n - i)*4=((aj eC G).drop (i*4)).length:=by rw[Jaz,na,←Nat.sub_mul]
 have mo:(η.info? 67).map (·.size)=ζ 4:=by rw[uZ];simp[ki]
 have zp:∀w,(Go.sizeOf 67).run η w=.ok 4 w:=fun w=>by simp[sizeOf,typeInfo,uZ,ki]
 have Sq:∀lb cb,(callFunc 162 #[γ (ζ ⟨vb,0,ε⟩) 1 1,γ (ζ ⟨b,(i+1)*4,ε⟩) lb cb]).run η W=.ok (.value (.bool ρ)) W:=fun lb cb=>by
  rw[run_callFunc_extern Tryz.func162 (by kernel_rfl) (by kernel_rfl) (by kernel_rfl) (e:=Extern.SlicesOverlaps.overlaps #[23,23] #[4]) (by kernel_rfl),
   Lib.run_overlaps_apart W 23 4 67 Tryz.underlying23 4 zp ⟨vb,0,ε⟩ ⟨b,(i+1)*4,ε⟩ 1 1 lb cb sY 67 67 _ _ (jl hx) (jl hW) (by rw[o7];omega) (hx.free 0) (hx.free _)]
  rfl
 have zR:∀v∈(aj eC G).drop (i*4),v.oneCell'=τ:=fun v hv=>cz eC jX G v (JbC hv)
 have CR:∀ty dc sc,(Jbr #[23,23] ty #[γ (ζ ⟨b,(i+1)*4,ε⟩) (n - i) dc,γ (ζ ⟨b,i*4,ε⟩) (n+1 - i) sc]).run η W.drew=.ok (goInt (n - i:Nat)) (W.drew.setCells b ((i+1)*4) ((aj eC G).drop (i*4))):=fun ty dc sc=>
  dL W.drew _ _ ty 67 4 b ((i+1)*4) (n - i) dc ⟨b,i*4,ε⟩ (n+1 - i) sc (n - i) _ Tryz.underlying23 mo (by simp only[JbR];split<;>omega) kU
   (fun j v hj=>by
     rw[Ν];rw[JaS] at hj;exact hW.dr.cell (i:=i*4+j) (by rw[Jab (by have:=(ν.1 hj).1;omega)];exact hj))
   (fun j hj=>eG hW.dr (by rw[←kU] at hj;rw[AS];omega)) (fun j hj=>hW.dr.free _) zR
 have ui:=hW.dr.cells_ ((aj eC G).drop (i*4)) ((i+1)*4) W.drew _ (by rw[←kU,AS];omega);obtain⟨W1,aO⟩:=ay (W.drew.setCells b ((i+1)*4) ((aj eC G).drop (i*4)));have lj:Whole W1 vb 67 (eC x):=aO▸hx.dr.cells_far sY _ _;have e8:σ w.heap.size w W1:=aO▸below_setCells hO.below.drew (Λ hO.lo fV) _ _;have Dy:W1.heap.size=W.heap.size:=by rw[←aO,cg];rfl
 rw[aO] at CR ui;have bM:(dB (aj eC G++junk) ((i+1)*4) ((aj eC G).drop (i*4))).length=c*4:=by rw[fD _ _ _ (by rw[←kU,AS];omega),AS]
 have LM:∀ty dc,(Jbr #[23,23] ty #[γ (ζ ⟨b,i*4,ε⟩) (n+1 - i) dc,γ (ζ ⟨vb,0,ε⟩) 1 1]).run η W1=.ok (goInt (1:Nat)) (W1.setCells b (i*4) (eC x)):=fun ty dc=>
  dL W1 _ _ ty 67 4 b (i*4) (n+1 - i) dc ⟨vb,0,ε⟩ 1 1 1 _ Tryz.underlying23 mo (by simp only[JbR];split<;>omega) rfl
   (fun j v hj=>by
     rw[Ν,JaI];exact lj.cell hj)
   (fun j hj=>eG ui (by rw[bM];rw[bF] at hj;omega)) (fun j hj=>ui.free _) (jX x)
 have Eu:=ui.cells_ (eC x) (i*4) W1 _ (by rw[bM,bF];omega);rw[Kj (aj eC G) junk (eC x) i n na hi R5 (bF x),(nI i).1,(nI i).2] at Eu;have jn:aj eC (G.take i)++(eC x++aj eC (G.drop i))=aj eC (G.take i++x::G.drop i):=by rw[bV];rfl
 rw[jn] at Eu;have Pw:G.length=n:=(aJ hO.own).rlen bF (by decide)
 have ji:(aj eC (G.take i++x::G.drop i)).length=(n+1)*4:=by
  rw[←jn,Ε,Ε,←(nI i).1,←(nI i).2,JaA,Jaz,na,bF];omega
 have HF:Hid (Ow w B 67 4 (γ (ζ ⟨b,0,ε⟩) (n+1) c) (n+1) (aj eC (G.take i++x::G.drop i)) (W1.setCells b (i*4) (eC x))):=qh
  ⟨kG (junk:=junk.drop 4) Eu fV (by rw[Ε,ji,Jaz,←yY];omega) Dx (by unfold Jap;omega) ji,
   below_setCells e8 (Λ hO.lo fV) _ _,hO.lo,by rw[cg,Dy];exact hO.hi⟩
 have OO:Hid (W.grownBy (W1.setCells b (i*4) (eC x)) (ζ b)):=qh (by
  rw[←aO];exact qt (((Kept.refl (fun x=>x=b) W).drew).trans ((eQ (S:=fun x=>x=b) rfl _ _).trans (eQ (S:=fun x=>x=b) rfl _ _))))
 have kd:¬((i:Int)=(n:Int)):=by omega
 have jo:Jaw.wrap ((i:Int)+1)=(i:Int)+1:=by rw[JaT];omega
 have jd:Jaw.wrap ((n:Int)+1)=(n:Int)+1:=by rw[JaT];omega
 have e8:(0:Int)≤(i:Int)+1:=by omega
 have lh:i≤n:=by omega
 have Ma:((i:Int)+1).toNat=i+1:=by omega
 have ZC:((n:Int)+1).toNat=n+1:=by omega
 have ar:¬(c=i+1):=by omega
 have bC:(i:Int)≤(n:Int)+1:=by omega
 have kv:¬(c=i):=by omega
 have fB:¬(c:Int)<(n:Int)+1:=by omega
 have eP:(n:Int)+1≤(c:Int):=by omega
 have mixed:η.follows JbG=τ:=by kernel_rfl
 clear hO hx cu hW o7 na sY yY R5 AS kU mo zp zR ui aO lj bM Eu jn Pw ji Dy;go_enter Tryz.func147,Tryz.ntmps147;go_wp2_with (simp only[Sq])
 go_region_law_o (refine step_copy_runI rfl _ _ 23 23 rfl _ _ (by simp[Act.eval,ξ]) (by simp[Act.eval,ξ]) (CR _ _ _) ?_);go_wp2_with (at_builtin;refine wpList_copy_runI _ rfl _ _ 23 23 rfl _ _ rfl rfl (LM _ _) ?_)
 go_ret;exact⟨_,_,rfl,HF.out,OO.out⟩
theorem F0 (P Z new S:List ψ) (i:Nat) (hP:P.length=i*4) (hn:new.length=4) (hZ:4+S.length≤Z.length):
 dB (dB (P++Z) (i*4) new) ((i+1)*4) S=(P++(new++S))++Z.drop (4+S.length):=by
 have e1:dB (P++Z) (i*4) new=(P++new)++Z.drop 4:=by
  unfold dB;rw[Jbt,JaR,hP,hn,JaP,JbQ,Jbi,Ι (by omega),Jak (by omega),JaF];rw[show i*4+4 - i*4=4 by omega,Jay]
 have hl:(P++new).length=(i+1)*4:=by rw[Ε,hP,hn];omega
 rw[e1];unfold dB;rw[Jbt,JaR,hl,JaP,JbQ,Jbi,Ι (by omega),Jak (by omega),JaF];rw[show(i+1)*4+S.length - (i+1)*4=S.length by omega,List.drop_drop];simp[Jay]
theorem Cy (k:Nat):(JaO (JbL #[J 0,J 0,μ {data:=#[]},J 0]).cells k).size=k*4:=by
 simp[JaO,Value.cells]
theorem yO {w W:ο} {B:Nat} {A:Option Κ} {n vb i:Nat} {G:List EC} (x:EC) (hO:Ow w B 67 4 (γ A n n) n (aj eC G) W) (hx:Whole W vb 67 (eC x)) (hn:n≤1000) (hi:i<n):
 Ζ η 147 #[γ A n n,J (i:Int),γ (ζ ⟨vb,0,ε⟩) 1 1] W fun e w'=>∃A' c',e=.returned (γ A' (n+1) c')∧Ow w B 67 4 (γ A' (n+1) c') (n+1) (aj eC (G.take i++x::G.drop i)) w'∧W.grownBy w' (Ο A n n).ownBlock:=by
 obtain⟨iG,uZ,pN,ki,nf⟩:=aW F5;obtain⟨b,junk,rfl,fV,hW,o7,tt,qM,na⟩:=dZ hO.own (by omega);have kU:(n - i)*4=((aj eC G).drop (i*4)).length:=by rw[Jaz,na,←Nat.sub_mul]
 have bM:((aj eC G).take (i*4)).length=i*4:=by rw[JaA,na];omega
 have mo:(η.info? 67).map (·.size)=ζ 4:=by rw[uZ];simp[ki]
 have NR:i+(n+1 - i)=n+1:=by omega
 have LA:(n:Int)+1 - (i:Int)=((n+1 - i:Nat):Int):=by omega
 have zR:∀v∈(aj eC G).drop (i*4),v.oneCell'=τ:=fun v hv=>cz eC jX G v (JbC hv)
 have hold:(Builtin.firstCells iG.size i (γ (ζ ⟨b,0,ε⟩) i n)).run η W.drew=.ok ((aj eC G).take (i*4)).toArray W.drew:=by
  rw[ki]
  exact run_firstCells_some W.drew 4 i ⟨b,0,ε⟩ i n _ bM (fun j v hj=>by
   rw[Ν,JaI];rw[List.getElem?_take] at hj;split at hj
   ·exact hW.dr.cell (i:=j) (by rw[Jab (ν.1 hj).1];exact hj)
   ·cases hj)
 obtain⟨g,hg⟩:=ay W.heap.size;obtain⟨GC,Jn⟩:=ay (grownCap W (n+1) n 67);have Za:n+1≤GC:=by rw[←Jn];exact grownCap_ge W _ _ _
 have CZ:GC≤Jap:=by rw[←Jn];exact grownCap_le_maxLen W (n+1) n 67 (by unfold Jap;omega)
 obtain⟨sG,x7⟩:=ay (((aj eC G).take (i*4)).toArray++JaO (JbL #[J 0,J 0,μ {data:=#[]},J 0]).cells (n+1 - i)++JaO (JbL #[J 0,J 0,μ {data:=#[]},J 0]).cells (GC - (n+1)))
 have SI:∀ty,(JaY #[23,3] ty #[γ (ζ ⟨b,0,ε⟩) i n,J ((n:Int)+1 - (i:Int))]).run η W=.ok (γ (ζ ⟨g,0,ε⟩) (n+1) GC) (W.drew.alloc (δ sG 67)):=fun ty=>by
  have h:=Lib.run_append_grow_zeros W 23 3 ty 67 iG _ .i64 .i64 Tryz.underlying23 Tryz.underlying3 uZ pN (ζ ⟨b,0,ε⟩) i n _ hold (n+1 - i) (by omega) (by omega) (by omega) (by omega) (by rw[nf];omega) (by rw[nf,NR];exact growslice_fits (by omega) (by omega));rw[NR,hg,Jn,x7] at h;rw[LA];exact h
 obtain⟨Z,hZ⟩:=ay ((JaO (JbL #[J 0,J 0,μ {data:=#[]},J 0]).cells (n+1 - i)++JaO (JbL #[J 0,J 0,μ {data:=#[]},J 0]).cells (GC - (n+1))).toList)
 have G4:Z.length=(GC - i)*4:=by
  rw[←hZ,Array.length_toList,Array.size_append,Cy,Cy];omega
 have MB:sG=((aj eC G).take (i*4)++Z).toArray:=by
  rw[←x7,←hZ];simp
 have RL:b≠g:=by have:=hW.lt;omega
 have WD:vb≠g:=by have:=hx.lt;omega
 obtain⟨P,hP⟩:=ay ((aj eC G).take (i*4));obtain⟨S,hS⟩:=ay ((aj eC G).drop (i*4));rw[hP] at bM MB;rw[hS] at kU zR;have Er:(P++Z).length=GC*4:=by rw[Ε,bM,G4];omega
 have BZ:Whole (W.drew.alloc (δ sG 67)) g 67 (P++Z):=by
  rw[MB];exact Whole.new2 hg.symm
 have OV:Whole (W.drew.alloc (δ sG 67)) vb 67 (eC x):=hx.dr.alloc _;have NC:Whole (W.drew.alloc (δ sG 67)) b 67 (aj eC G++junk):=hW.dr.alloc _;have Yp:=hO.below.size;have qR:σ w.heap.size w (W.drew.alloc (δ sG 67)):=aE (aL hO.below) _;have jL:(W.drew.alloc (δ sG 67)).heap.size=W.heap.size+1:=by simp
 have Vw:σ W.heap.size W (W.drew.alloc (δ sG 67)):=aE (aL (Θ _ _)) _;obtain⟨V1,kN⟩:=ay (W.drew.alloc (δ sG 67));rw[kN] at BZ OV NC qR jL SI Vw
 have xq:∀V,V=V1→∀ty dc,(Jbr #[23,23] ty #[γ (ζ ⟨g,i*4,ε⟩) (n+1 - i) dc,γ (ζ ⟨vb,0,ε⟩) 1 1]).run η V=.ok (goInt (1:Nat)) (V1.setCells g (i*4) (eC x)):=fun V hV ty dc=>by
  subst hV
  exact dL V _ _ ty 67 4 g (i*4) (n+1 - i) dc ⟨vb,0,ε⟩ 1 1 1 _ Tryz.underlying23 mo (by simp only[JbR];split<;>omega) rfl
   (fun j v hj=>by
     rw[Ν,JaI];exact OV.cell hj)
   (fun j hj=>eG BZ (by rw[Er];rw[bF] at hj;omega)) (fun j hj=>BZ.free _) (jX x)
 have Cu:=BZ.cells_ (eC x) (i*4) V1 _ (by rw[Er,bF];omega);have Ns:Whole (V1.setCells g (i*4) (eC x)) b 67 (aj eC G++junk):=NC.cells_far RL _ _;have ox:σ w.heap.size w (V1.setCells g (i*4) (eC x)):=below_setCells qR (by omega) _ _;have Ty:σ W.heap.size W (V1.setCells g (i*4) (eC x)):=below_setCells Vw (by omega) _ _;have kd:(V1.setCells g (i*4) (eC x)).heap.size=W.heap.size+1:=by rw[cg,jL]
 obtain⟨V2,Ji⟩:=ay (V1.setCells g (i*4) (eC x));rw[Ji] at Cu Ns ox kd xq Ty;have wv:(dB (P++Z) (i*4) (eC x)).length=GC*4:=by rw[fD _ _ _ (by rw[Er,bF];omega),Er]
 have ME:∀ty dc sc,(Jbr #[23,23] ty #[γ (ζ ⟨g,(i+1)*4,ε⟩) (n - i) dc,γ (ζ ⟨b,i*4,ε⟩) (n - i) sc]).run η V2.drew=.ok (goInt (n - i:Nat)) (V2.drew.setCells g ((i+1)*4) S):=fun ty dc sc=>
  dL V2.drew _ _ ty 67 4 g ((i+1)*4) (n - i) dc ⟨b,i*4,ε⟩ (n - i) sc (n - i) _ Tryz.underlying23 mo (by simp only[JbR];split<;>omega) kU
   (fun j v hj=>by
     rw[Ν];rw[←hS,JaS] at hj;exact Ns.dr.cell (i:=i*4+j) (by rw[Jab (ν.1 hj).1];exact hj))
   (fun j hj=>eG Cu.dr (by rw[←kU] at hj;rw[wv];omega)) (fun j hj=>Cu.dr.free _) zR
 have MU:=Cu.dr.cells_ S ((i+1)*4) V2.drew _ (by rw[←kU,wv];omega);rw[F0 P Z (eC x) S i bM (bF x) (by rw[←kU,G4];omega)] at MU;have jn:P++(eC x++S)=aj eC (G.take i++x::G.drop i):=by rw[←hP,←hS,(nI i).1,(nI i).2,bV];rfl
 have ji:(P++(eC x++S)).length=(n+1)*4:=by rw[Ε,Ε,bM,bF,←kU];omega
 have EE:(Z.drop (4+S.length)).length=(GC - (n+1))*4:=by rw[Jaz,G4,←kU];omega
 have HF:Hid (Ow w B 67 4 (γ (ζ ⟨g,0,ε⟩) (n+1) GC) (n+1) (aj eC (G.take i++x::G.drop i)) (V2.drew.setCells g ((i+1)*4) S)):=qh (by
  rw[←jn];exact⟨kG (junk:=Z.drop (4+S.length)) MU (by have:=hO.hi;omega) (by rw[Ε,ji,EE];omega) Za CZ ji,below_setCells (aL ox) (by omega) _ _,hO.lo,by rw[cg];show B≤V2.heap.size;have:=hO.hi;omega⟩)
 have OO:Hid (W.grownBy (V2.drew.setCells g ((i+1)*4) S) (ζ b)):=qh (tn (below_setCells (aL Ty) (by omega) _ _));have hz3:¬((i:Int)=(n:Int)):=by omega
 have jo:Jaw.wrap ((i:Int)+1)=(i:Int)+1:=by rw[JaT];omega
 have jd:Jaw.wrap ((n:Int)+1)=(n:Int)+1:=by rw[JaT];omega
 have fu:Jaw.wrap ((n:Int)+1 - (i:Int))=(n:Int)+1 - (i:Int):=by rw[JaT];omega
 have e8:(0:Int)≤(i:Int)+1:=by omega
 have lh:i≤n:=by omega
 have Ma:((i:Int)+1).toNat=i+1:=by omega
 have ar:¬(GC=i+1):=by omega
 have bC:(i:Int)≤(n:Int):=by omega
 have kv:¬(n=i):=by omega
 have fB:¬(GC=i):=by omega
 have eP:(n:Int)<(n:Int)+1:=by omega
 unfold Jap at CZ;have mixed:η.follows JbG=τ:=by kernel_rfl
 subst kN;have MO:∀ty dc,(Jbr #[23,23] ty #[γ (ζ ⟨g,i*4,ε⟩) (n+1 - i) dc,γ (ζ ⟨vb,0,ε⟩) 1 1]).run η (W.alloc (δ sG 67)).drew=.ok (goInt (1:Nat)) V2:=fun ty dc=>xq _ rfl ty dc
 clear xq Ji;clear hO hx hW o7 na WD RL kU mo zR hold bM NR LA x7 G4 MB hZ Er BZ OV NC qR jL Vw Ty Cu Ns ox kd wv MU jn ji EE hP hS Jn Yp;go_enter Tryz.func147,Tryz.ntmps147
 go_wp2_with (first
  |(at_builtin;refine Lib.wpList_append_run _ rfl _ _ _ _ rfl _ _ rfl rfl _ _ (SI _) ?_)
  |(at_builtin;refine wpList_copy_runI _ rfl _ _ 23 23 rfl _ _ rfl rfl (MO _ _) ?_))
 go_region_law_o (refine step_copy_runI rfl _ _ 23 23 rfl _ _ (by simp[Act.eval,ξ]) (by simp[Act.eval,ξ]) (ME _ _ _) ?_);go_wp2;go_ret;exact⟨_,_,rfl,HF.out,OO.out⟩
theorem BQ {w W:ο} {B:Nat} {A:Option Κ} {n c vb i:Nat} {G:List EC} (x:EC) (hO:Ow w B 67 4 (γ A n c) n (aj eC G) W) (hx:Whole W vb 67 (eC x)) (cu:ζ vb≠(Ο A n c).ownBlock) (hn:n≤1000) (hi:i≤n):
 Ζ η 147 #[γ A n c,J (i:Int),γ (ζ ⟨vb,0,ε⟩) 1 1] W fun e w'=>∃A' c',e=.returned (γ A' (n+1) c')∧Ow w B 67 4 (γ A' (n+1) c') (n+1) (aj eC (G.take i++x::G.drop i)) w'∧W.grownBy w' (Ο A n c).ownBlock:=by
 have tt:n≤c:=(aJ hO.own).le;have Pw:G.length=n:=(aJ hO.own).rlen bF (by decide);rcases JaM i n with h|h
 ·rcases JaM n c with h2|h2
  ·exact yI x hO hx cu hn h h2
  ·obtain rfl:n=c:=by omega
   exact yO x hO hx hn h
 ·obtain rfl:n=i:=by omega
  rw[Ι (by omega),Jak (by omega)];exact AJ x hO (by rw[QB];exact aX.of_whole hx rfl) hn
theorem Ac {P:Program} (w:ο) (t e ty:TypeId) (z:ψ) (zs:List ψ) (ht:P.underlying t=ζ (.slice e)) (hv:∀w,(zeroValue e).run P w=.ok z w) (hz:(JaO z.cells 1).toList=zs) (h1:∀v∈zs,v.oneCell'=τ) (b o c:Nat)
 (hc:∀j,j<zs.length→(w.cell? ⟨b,o+j,ε⟩).isSome=τ∧w.frozen? ⟨b,o+j,ε⟩=ρ):
 (Builtin.clear_ #[t] ty #[γ (ζ ⟨b,o,ε⟩) 1 c]).run P w=.ok (Ξ #[]) (w.setCells b o zs):=by
 have GV:=run_storeCells_cells (P:=P) b o zs 0 w (fun j hj=>by simpa using (hc j hj).1) (fun j hj=>by simpa using (hc j hj).2) h1;simp only[Nat.add_zero] at GV;simp[Builtin.clear_,run_underlying ht,hv,hz,GV]
theorem zJ (X junk Z:List ψ) (i n s:Nat) (hX:X.length=n*s) (hi:i<n) (hZ:Z.length=s):dB (dB (X++junk) (i*s) (X.drop ((i+1)*s))) ((n - 1)*s) Z=(X.take (i*s)++X.drop ((i+1)*s))++(Z++junk):=by
 obtain⟨p,hp⟩:=ay (i*s);have hp1:(i+1)*s=p+s:=by rw[Nat.add_mul,Nat.one_mul,hp]
 obtain⟨q,hq⟩:=ay ((n - 1)*s)
 have hq1:n*s=q+s:=by
  obtain⟨m,rfl⟩:∃m,n=m+1:=⟨n - 1,by omega⟩
  rw[Nat.add_mul,Nat.one_mul,←hq];rfl
 have hpq:p≤q:=by rw[←hp,←hq];exact Nat.mul_le_mul_right _ (by omega)
 rw[hp,hp1,hq];obtain⟨Pp,hPp⟩:=ay (X.take p);obtain⟨S,hS⟩:=ay (X.drop (p+s));have PL:Pp.length=p:=by rw[←hPp,JaA];omega
 have hSl:S.length=q - p:=by rw[←hS,Jaz];omega
 have h1:dB (X++junk) p S=(Pp++S)++(X++junk).drop q:=by
  unfold dB;rw[List.take_append_of_le_length (by omega),hPp,hSl,show p+(q - p)=q by omega,Jay]
 rw[hPp,hS,h1];have hl:(Pp++S).length=q:=by rw[Ε];omega
 have e2:∀D:List ψ,dB ((Pp++S)++D) q Z=(Pp++S)++(Z++D.drop s):=fun D=>by
  unfold dB;rw[List.take_left' hl,JaR,hl,Jak (by omega),JaF,hZ,show q+s - q=s by omega,Jay]
 rw[e2,List.drop_drop,List.drop_left' (by omega)]
theorem ye {α:Type} (f:α→List ψ) {k:Nat} (hf:∀x,(f x).length=k) (L:List α) (i:Nat):(aj f L).take (i*k)++(aj f L).drop ((i+1)*k)=aj f (L.eraseIdx i):=by
 rw[←jj f hf,←ly f hf,←bV,←List.eraseIdx_eq_take_drop_succ]
theorem Ux (w:ο):(zeroValue 59).run η w=.ok (.agg #[J 0,J 0,γ ε 0 0,μ {data:=#[]},J 0]) w:=by
 obtain⟨i,h1,h2,_⟩:=aW hU;simp[zeroValue,typeInfo,h1,h2]
theorem Mi (g c i n:Nat) (L:List VC) (junk:List ψ) (w:ο) (h:Whole w g 59 (aj vC L++junk)) (hL:L.length=n) (hc:(aj vC L++junk).length=c*5) (hm:c≤Jap) (hi:i<n):
 Ζ η 139 #[γ (ζ ⟨g,0,ε⟩) n c,J (i:Int),J ((i:Int)+1)] w fun e w'=>e=.returned (γ (ζ ⟨g,0,ε⟩) (n - 1) c)∧Whole w' g 59 (aj vC (L.eraseIdx i)++([J 0,J 0,γ ε 0 0,μ {data:=#[]},J 0]++junk))∧Kept (fun b=>b=g) w w':=by
 obtain⟨i0,FG,oX,jL,kd⟩:=aW hU;obtain⟨X,gX⟩:=ay (aj vC L);have QA:X.length=n*5:=by rw[←gX,←hL];exact cP vC aQ L
 have h1:∀u∈X,u.oneCell'=τ:=by rw[←gX];exact cz vC kA L
 have hE:X.take (i*5)++X.drop ((i+1)*5)=aj vC (L.eraseIdx i):=by rw[←gX];exact ye vC aQ L i
 rw[gX] at h hc;have o7:n*5+junk.length=c*5:=by rw[←hc,Ε,QA]
 unfold Jap at hm;obtain⟨j,gj⟩:=ay (i+1);have Z3:(i:Int)+1=(j:Int):=by omega
 obtain⟨news,nc⟩:∃news,news=X.drop (j*5):=⟨_,rfl⟩
 have hlen:news.length=(n - j)*5:=by rw[nc,Jaz,QA,Nat.sub_mul]
 obtain⟨A,hA,LC⟩:∃A:Κ,(if c=j then ζ (⟨g,0,ε⟩:Κ) else ζ ⟨g,j*5,ε⟩)=ζ A∧Hid (∀t u,news[t]? =ζ u→w.drew.cell? (A.add t)=ζ u):=by
  by_cases XF:c=j
  ·refine⟨⟨g,0,ε⟩,by simp[XF],fun t u hu=>?_⟩
   have h0:news.length=0:=by rw[hlen];omega
   rw[List.length_eq_zero_iff.1 h0] at hu;simp at hu
  ·refine⟨⟨g,j*5,ε⟩,by simp[XF],fun t u hu=>?_⟩
   rw[Ν];rw[nc,JaS] at hu;refine h.dr.cell (i:=j*5+t) ?_;rw[Jab (ν.1 hu).1];exact hu
 have s1:Hid (news.length=(n - j)*5):=hlen;have s2:Hid (∀u∈news,u.oneCell'=τ):=fun u hu=>h1 u (by rw[nc] at hu;exact JbC hu)
 have WH:w.drew.there g (i*5) news.length:=(Whole.drew h).there_ (i*5) news.length (by rw[hc,hlen];omega);have s3:Hid (∀t,t<news.length→(w.drew.cell? ⟨g,0+i*5+t,ε⟩).isSome=τ∧w.drew.frozen? ⟨g,0+i*5+t,ε⟩=ρ):=qh (fun t ht=>by rw[JaI];exact WH t ht);obtain⟨W1,ui⟩:∃W1,W1=w.drew.setCells g (0+i*5) news:=⟨_,rfl⟩
 have Gy:Whole W1 g 59 (dB (X++junk) (i*5) (X.drop ((i+1)*5))):=by
  rw[ui,JaI,gj,←nc];exact(Whole.drew h).cells_ news (i*5) w.drew _ (by rw[hc,hlen];omega)
 have vK:Kept (fun b=>b=g) w W1:=by
  rw[ui];exact(Kept.refl _ _).drew.trans (eQ (S:=fun b=>b=g) rfl _ _)
 have bM:(dB (X++junk) (i*5) (X.drop ((i+1)*5))).length=c*5:=by rw[fD _ _ _ (by rw[gj,←nc,hc,hlen];omega),hc]
 have EE:([J 0,J 0,γ ε 0 0,μ {data:=#[]},J 0]:List ψ).length=5:=rfl
 have adZ:∀ty cc,(Builtin.clear_ #[22] ty #[γ (ζ ⟨g,(n - 1)*5,ε⟩) 1 cc]).run η W1=.ok (Ξ #[]) (W1.setCells g ((n - 1)*5) [J 0,J 0,γ ε 0 0,μ {data:=#[]},J 0]):=
  fun ty cc=>Ac W1 _ _ ty _ _ Tryz.underlying22 Ux (by first|kernel_rfl|(simp[JaO,Value.cells];rfl)) (by simp[Τ]) g ((n - 1)*5) _ (fun t ht=>(Gy.there_ ((n - 1)*5) 5 (by rw[bM];omega)) t ht)
 have kE:Whole (W1.setCells g ((n - 1)*5) [J 0,J 0,γ ε 0 0,μ {data:=#[]},J 0]) g 59 (aj vC (L.eraseIdx i)++([J 0,J 0,γ ε 0 0,μ {data:=#[]},J 0]++junk)):=by
  have h9:=Gy.cells_ [J 0,J 0,γ ε 0 0,μ {data:=#[]},J 0] ((n - 1)*5) W1 _ (by rw[bM,EE];omega);rw[zJ X junk [J 0,J 0,γ ε 0 0,μ {data:=#[]},J 0] i n 5 QA hi EE,hE] at h9;exact h9
 have HE:=qh kE;have HK:Hid (Kept (fun b=>b=g) w (W1.setCells g ((n - 1)*5) [J 0,J 0,γ ε 0 0,μ {data:=#[]},J 0])):=qh (vK.trans (eQ (S:=fun b=>b=g) rfl _ _));have hW:Hid (W1=w.drew.setCells g (0+i*5) news):=ui;have hic:i≤c:=by omega
 have hjc:j≤c:=by omega
 have Jh:i≤j:=by omega
 have heq:¬i=j:=by omega
 have o4:j≤n:=by omega
 have tt:n≤c:=by omega
 have hN:i+(n - j)=n - 1:=by omega
 have BZ:n - (n - 1)=1:=by omega
 have mixed:η.follows JbG=τ:=by kernel_rfl
 rw[Z3];clear ui Gy vK bM kE nc hlen WH h hc h1 hi o7 gj Z3 gX QA hE EE hL;go_enter Tryz.func139,Tryz.ntmps139;go_wp2_with fail
 go_region_law_o (refine step_append_room rfl (.tmp 22) (.tmp 25) 22 rfl 59 i0 5 Tryz.underlying22 FG jL g 0 i c (by simp[Act.eval,ξ]) A (n - j) (c - j) news (by simp[Act.eval,ξ]) s1.out LC.out s2.out (by omega) s3.out ?_;rw[←hW.out]);go_wp2;go_ret;exact⟨rfl,HE.out,HK.out⟩
theorem Ta (w:ο):(zeroValue 67).run η w=.ok (.agg #[J 0,J 0,μ {data:=#[]},J 0]) w:=by
 obtain⟨i,h1,h2,_⟩:=aW jQ;simp[zeroValue,typeInfo,h1,h2]
theorem NM (g c i n:Nat) (L:List EC) (junk:List ψ) (w:ο) (h:Whole w g 67 (aj eC L++junk)) (hL:L.length=n) (hc:(aj eC L++junk).length=c*4) (hm:c≤Jap) (hi:i<n):
 Ζ η 154 #[γ (ζ ⟨g,0,ε⟩) n c,J (i:Int),J ((i:Int)+1)] w fun e w'=>e=.returned (γ (ζ ⟨g,0,ε⟩) (n - 1) c)∧Whole w' g 67 (aj eC (L.eraseIdx i)++([J 0,J 0,μ {data:=#[]},J 0]++junk))∧Kept (fun b=>b=g) w w':=by
 obtain⟨i0,FG,oX,jL,kd⟩:=aW jQ;obtain⟨X,gX⟩:=ay (aj eC L);have QA:X.length=n*4:=by rw[←gX,←hL];exact cP eC bF L
 have h1:∀u∈X,u.oneCell'=τ:=by rw[←gX];exact cz eC jX L
 have hE:X.take (i*4)++X.drop ((i+1)*4)=aj eC (L.eraseIdx i):=by rw[←gX];exact ye eC bF L i
 rw[gX] at h hc;have o7:n*4+junk.length=c*4:=by rw[←hc,Ε,QA]
 unfold Jap at hm;obtain⟨j,gj⟩:=ay (i+1);have Z3:(i:Int)+1=(j:Int):=by omega
 obtain⟨news,nc⟩:∃news,news=X.drop (j*4):=⟨_,rfl⟩
 have hlen:news.length=(n - j)*4:=by rw[nc,Jaz,QA,Nat.sub_mul]
 obtain⟨A,hA,LC⟩:∃A:Κ,(if c=j then ζ (⟨g,0,ε⟩:Κ) else ζ ⟨g,j*4,ε⟩)=ζ A∧Hid (∀t u,news[t]? =ζ u→w.drew.cell? (A.add t)=ζ u):=by
  by_cases XF:c=j
  ·refine⟨⟨g,0,ε⟩,by simp[XF],fun t u hu=>?_⟩
   have h0:news.length=0:=by rw[hlen];omega
   rw[List.length_eq_zero_iff.1 h0] at hu;simp at hu
  ·refine⟨⟨g,j*4,ε⟩,by simp[XF],fun t u hu=>?_⟩
   rw[Ν];rw[nc,JaS] at hu;refine h.dr.cell (i:=j*4+t) ?_;rw[Jab (ν.1 hu).1];exact hu
 have s1:Hid (news.length=(n - j)*4):=hlen;have s2:Hid (∀u∈news,u.oneCell'=τ):=fun u hu=>h1 u (by rw[nc] at hu;exact JbC hu)
 have WH:w.drew.there g (i*4) news.length:=(Whole.drew h).there_ (i*4) news.length (by rw[hc,hlen];omega);have s3:Hid (∀t,t<news.length→(w.drew.cell? ⟨g,0+i*4+t,ε⟩).isSome=τ∧w.drew.frozen? ⟨g,0+i*4+t,ε⟩=ρ):=qh (fun t ht=>by rw[JaI];exact WH t ht);obtain⟨W1,ui⟩:∃W1,W1=w.drew.setCells g (0+i*4) news:=⟨_,rfl⟩
 have Gy:Whole W1 g 67 (dB (X++junk) (i*4) (X.drop ((i+1)*4))):=by
  rw[ui,JaI,gj,←nc];exact(Whole.drew h).cells_ news (i*4) w.drew _ (by rw[hc,hlen];omega)
 have vK:Kept (fun b=>b=g) w W1:=by
  rw[ui];exact(Kept.refl _ _).drew.trans (eQ (S:=fun b=>b=g) rfl _ _)
 have bM:(dB (X++junk) (i*4) (X.drop ((i+1)*4))).length=c*4:=by rw[fD _ _ _ (by rw[gj,←nc,hc,hlen];omega),hc]
 have EE:([J 0,J 0,μ {data:=#[]},J 0]:List ψ).length=4:=rfl
 have adZ:∀ty cc,(Builtin.clear_ #[23] ty #[γ (ζ ⟨g,(n - 1)*4,ε⟩) 1 cc]).run η W1=.ok (Ξ #[]) (W1.setCells g ((n - 1)*4) [J 0,J 0,μ {data:=#[]},J 0]):=
  fun ty cc=>Ac W1 _ _ ty _ _ Tryz.underlying23 Ta (by first|kernel_rfl|(simp[JaO,Value.cells];rfl)) (by simp[Τ]) g ((n - 1)*4) _ (fun t ht=>(Gy.there_ ((n - 1)*4) 4 (by rw[bM];omega)) t ht)
 have kE:Whole (W1.setCells g ((n - 1)*4) [J 0,J 0,μ {data:=#[]},J 0]) g 67 (aj eC (L.eraseIdx i)++([J 0,J 0,μ {data:=#[]},J 0]++junk)):=by
  have h9:=Gy.cells_ [J 0,J 0,μ {data:=#[]},J 0] ((n - 1)*4) W1 _ (by rw[bM,EE];omega);rw[zJ X junk [J 0,J 0,μ {data:=#[]},J 0] i n 4 QA hi EE,hE] at h9;exact h9
 have HE:=qh kE;have HK:Hid (Kept (fun b=>b=g) w (W1.setCells g ((n - 1)*4) [J 0,J 0,μ {data:=#[]},J 0])):=qh (vK.trans (eQ (S:=fun b=>b=g) rfl _ _));have hW:Hid (W1=w.drew.setCells g (0+i*4) news):=ui;have hic:i≤c:=by omega
 have hjc:j≤c:=by omega
 have Jh:i≤j:=by omega
 have heq:¬i=j:=by omega
 have o4:j≤n:=by omega
 have tt:n≤c:=by omega
 have hN:i+(n - j)=n - 1:=by omega
 have BZ:n - (n - 1)=1:=by omega
 have mixed:η.follows JbG=τ:=by kernel_rfl
 rw[Z3];clear ui Gy vK bM kE nc hlen WH h hc h1 hi o7 gj Z3 gX QA hE EE hL;go_enter Tryz.func154,Tryz.ntmps154;go_wp2_with fail
 go_region_law_o (refine step_append_room rfl (.tmp 22) (.tmp 25) 23 rfl 67 i0 4 Tryz.underlying23 FG jL g 0 i c (by simp[Act.eval,ξ]) A (n - j) (c - j) news (by simp[Act.eval,ξ]) s1.out LC.out s2.out (by omega) s3.out ?_;rw[←hW.out]);go_wp2;go_ret;exact⟨rfl,HE.out,HK.out⟩
def IS (w:ο) (x:D) (ok:Bool) (e:Ending) (w':ο):Prop:=
 e=.returned (Ξ #[.agg #[J x.1,J x.2.1,J x.2.2],.bool ok])∧σ w.heap.size w w'
end Go.Proofs.YtpdpbfmiahjiiaaGreat
