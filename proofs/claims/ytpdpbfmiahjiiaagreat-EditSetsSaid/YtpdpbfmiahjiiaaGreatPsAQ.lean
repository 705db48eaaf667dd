/- Several texts in one. -/
import Derived.Test.YtpdpbfmiahjiiaaGreatPsAB
import Derived.Test.YtpdpbfmiahjiiaaGreatPsAE
import Derived.Test.YtpdpbfmiahjiiaaGreatPsAI
import Derived.Test.YtpdpbfmiahjiiaaGreatPsAJ
import Derived.Test.YtpdpbfmiahjiiaaGreatPsAP
set_option linter.unusedSectionVars false
set_option linter.unusedSimpArgs false
set_option linter.unusedVariables false
set_option maxRecDepth 100000
set_option maxHeartbeats 16000000
namespace Go.Proofs.YtpdpbfmiahjiiaaGreat
open Go.RowKit
open _root_.Go.Value renaming slice→γ,pointer→υ,agg→φ,tuple→Ξ
open _root_.Go.Obj renaming cells→δ
open _root_.Option renaming none→ε,some→ζ
open _root_.Go.Proofs.Tryz renaming prog→η
open _root_.List renaming getElem?_eq_some_iff→ν,getElem?_map→Ψ,getElem?_set→Jbz
open _root_.Go.Act renaming put→ξ
open _root_.Go renaming World→ο,Calls→Ζ,Addr→Κ,wp_region_lit→Jam
open _root_.Bool renaming false→ρ,true→τ
open _root_.Go.RowKit renaming Below→σ
open _root_.Nat renaming le_refl→Δ,le_trans→Λ
open _root_.Go.RowKit.Below renaming refl→Θ
theorem Dl {Es:List EC} (hu:od (fun e:EC=>e.1) Es) {i:Nat} {v:EC} {x:Nm} (hv:Es[i]? =ζ v) (hx:v.1=x) (f:ByteArray × Int→ByteArray × Int):Es.set i (v.1,f v.2)=o6 Es x f:=by
 subst hx;apply List.ext_getElem?;intro j;unfold o6;rw[Jbz,Ψ];have hi:=(ν.1 hv).1
 by_cases ur:i=j
 ·subst ur;rw[if_pos rfl,if_pos hi,hv];show _=ζ (if v.1=v.1 then _ else _);rw[if_pos rfl]
 ·rw[if_neg ur];cases hj:Es[j]? with
  |none=>rfl
  |some u=>
   have bj:¬u.1=v.1:=fun e=>by
    have h1:(Es.map (·.1))[j]? =ζ u.1:=by rw[Ψ,hj];rfl
    have h2:(Es.map (·.1))[i]? =ζ v.1:=by rw[Ψ,hv];rfl
    have hj':=(ν.1 hj).1;exact ur ((List.getElem?_inj (by simpa using hi) hu.nodup).1 (h2.trans (by rw[h1,e])))
   show ζ u=ζ (if u.1=v.1 then _ else u);rw[if_neg bj]
theorem DM {Vs:List VC} (hu:od (fun v:VS=>v.1) (Vs.map vS)) {i:Nat} {v:VC} {x:Nm} (hv:Vs[i]? =ζ v) (hx:v.1=x) (f:ByteArray × Int→ByteArray × Int):(Vs.set i (v.1,v.2.1,f v.2.2)).map vS=lg (Vs.map vS) x f:=by
 subst hx;apply List.ext_getElem?;intro j;unfold lg;rw[List.map_set,Jbz,Ψ,Ψ,Ψ,List.length_map];have hi:=(ν.1 hv).1
 by_cases ur:i=j
 ·subst ur;rw[if_pos rfl,if_pos hi,hv];show _=ζ (if v.1=v.1 then _ else _);rw[if_pos rfl];rfl
 ·rw[if_neg ur];cases hj:Vs[j]? with
  |none=>rfl
  |some u=>
   have bj:¬u.1=v.1:=fun e=>by
    have h1:(Vs.map (·.1))[j]? =ζ u.1:=by rw[Ψ,hj];rfl
    have h2:(Vs.map (·.1))[i]? =ζ v.1:=by rw[Ψ,hv];rfl
    exact ur ((List.getElem?_inj (by simpa using hi) (iB Vs▸hu.nodup)).1 (h2.trans (by rw[h1,e])))
   show ζ (vS u)=ζ (if u.1=v.1 then _ else vS u);rw[if_neg bj]
section
variable {w W:ο} {lo g:Nat} {A:Option Κ} {n c:Nat} {Vs:List VC} {B:Option Κ} {m k:Nat} {Es:List EC} {C:Option Κ} {r rc:Nat} {G:List Gn}
theorem tY (h:bK w lo g A n c Vs B m k Es C r rc G W) (hn:m≤1000) (o:dR) (he:o.e=τ) (i:Nat) (hi:i<m) (hid:dX (fun v:EC=>v.1) Es (o.s,o.n)=(i:Int)):Ζ η 131 #[υ (ζ ⟨g,0,ε⟩),φ (ak o).toArray] W fun e w'=>∃b,B=ζ ⟨b,0,ε⟩∧e=.returned (Ξ #[υ (ζ ⟨b,i*4+2,ε⟩),υ (ζ ⟨b,i*4+3,ε⟩)])∧σ W.heap.size W w':=by
 obtain⟨b,junk,rfl,fw,-⟩:=cN h.e (by omega);have hiI:(i:Int)<(m:Int):=by omega
 have HI:Hid (∀X,bK w lo g A n c Vs (ζ ⟨b,0,ε⟩) m k Es C r rc G X→Ζ η 113 #[υ (ζ ⟨g,0,ε⟩),φ #[J o.s,J o.n]] X fun e w'=>e=.returned (J ((i:Int)))∧σ X.heap.size X w'):=qh (fun X hX=>by rw[←hid];exact dG g A n c (ζ ⟨b,0,ε⟩) m k C r rc o.s o.n Es X hX.s (aK hX.e) (by omega));clear hid;have H:=qh h;clear h;go_enter Tryz.func131,Tryz.ntmps131;go_upto_region 1 with fail
 obtain⟨W1,aV⟩:=aB (W.alloc (δ (ak o).toArray 36));have aL:Hid (Whole W1 W.heap.size 36 (ak o)):=qh (by rw[←aV];exact Whole.new_ _ _ _);have cB:Hid (bK w lo g A n c Vs (ζ ⟨b,0,ε⟩) m k Es C r rc G W1):=qh (by rw[←aV];exact H.out.al _);have bE:Hid (σ W.heap.size W W1):=qh (by rw[←aV];exact az _ _);rw[aV];clear aV H;have Nb:Hid (W.heap.size≠g):=qh (aL.out.ne_ cB.out.s (by decide));obtain⟨b0,bp⟩:=aB W.heap.size;rw[bp] at aL Nb ⊢;clear bp;have rD:=aL.out.cell (i:=1) rfl;have sW:=aL.out.cell (i:=2) rfl;have AN:=aL.out.cell (i:=17) rfl
 go_upto_region 4 with (first
  |(go_at_call 113
    refine(HI.out _ cB.out).mono ?_
    rintro e w2 ⟨rfl,aP⟩;have cY:=qh (cB.out.bl aP);have bG:=qh (ag bE.out aP);clear aP cB aL bE rD sW AN))
 obtain⟨W3,kh⟩:=aB w2;rw[kh] at cY bG ⊢;clear kh;have fL:∀w',Kept aO W3.drew w'→w'.cell? ⟨g,1,ε⟩=ζ (γ (ζ ⟨b,0,ε⟩) m k):=fun w' h=>h.nil_cell (cY.out.dr.s.cell (i:=1) rfl)
 refine ay (aO) (by kernel_rfl) ?_;refine aa 0 ?_;refine aa 1 ?_;refine aa 2 ?_;refine aa 3 ?_;refine aa 4 ?_;refine aa 5 ?_;refine aa 6 ?_;refine aa 7 ?_;refine aa 8 ?_;refine aa 9 ?_;refine aa 10 ?_;refine aa 11 ?_;refine aa 12 ?_;refine aa 13 ?_;refine aa 14 ?_;refine aa 15 ?_;refine aa 16 ?_;refine aa 17 ?_;refine aF (by kernel_rfl) ?_ _;intro w8 cg;have nV:=qh (ag (aN bG.out) cg);clear cg bG cY fL;go_wp2;go_ret2
 first|exact⟨b,rfl,rfl,nV.out⟩|exact⟨b,rfl,by simp,nV.out⟩
theorem Az (h:bK w lo g A n c Vs B m k Es C r rc G W) (hn:m≤1000) (o:dR) (he:o.e=τ) (hid:dX (fun v:EC=>v.1) Es (o.s,o.n)= -1):Ζ η 131 #[υ (ζ ⟨g,0,ε⟩),φ (ak o).toArray] W fun e w'=>e=.returned (Ξ #[υ ε,υ ε])∧σ W.heap.size W w':=by
 have HI:Hid (∀X,bK w lo g A n c Vs B m k Es C r rc G X→Ζ η 113 #[υ (ζ ⟨g,0,ε⟩),φ #[J o.s,J o.n]] X fun e w'=>e=.returned (J (-1))∧σ X.heap.size X w'):=qh (fun X hX=>by rw[←hid];exact dG g A n c B m k C r rc o.s o.n Es X hX.s (aK hX.e) (by omega));clear hid;have H:=qh h;clear h;go_enter Tryz.func131,Tryz.ntmps131;go_upto_region 1 with fail
 obtain⟨W1,aV⟩:=aB (W.alloc (δ (ak o).toArray 36));have aL:Hid (Whole W1 W.heap.size 36 (ak o)):=qh (by rw[←aV];exact Whole.new_ _ _ _);have cB:Hid (bK w lo g A n c Vs B m k Es C r rc G W1):=qh (by rw[←aV];exact H.out.al _);have bE:Hid (σ W.heap.size W W1):=qh (by rw[←aV];exact az _ _);rw[aV];clear aV H;have Nb:Hid (W.heap.size≠g):=qh (aL.out.ne_ cB.out.s (by decide));obtain⟨b0,bp⟩:=aB W.heap.size;rw[bp] at aL Nb ⊢;clear bp;have rD:=aL.out.cell (i:=1) rfl;have sW:=aL.out.cell (i:=2) rfl;have AN:=aL.out.cell (i:=17) rfl
 go_wp2_with (first
  |(go_at_call 113
    refine(HI.out _ cB.out).mono ?_
    rintro e w2 ⟨rfl,aP⟩;have cY:=qh (cB.out.bl aP);have bG:=qh (ag bE.out aP);clear aP cB aL bE rD sW AN))
 go_ret2;exact⟨rfl,bG.out⟩
theorem uE (h:bK w lo g A n c Vs B m k Es C r rc G W) (hn:n≤1000) (o:dR) (he:o.e=ρ) (i:Nat) (hi:i<n) (hid:dX (fun v:VC=>v.1) Vs (o.s,o.n)=(i:Int)):Ζ η 131 #[υ (ζ ⟨g,0,ε⟩),φ (ak o).toArray] W fun e w'=>∃b,A=ζ ⟨b,0,ε⟩∧e=.returned (Ξ #[υ (ζ ⟨b,i*5+3,ε⟩),υ (ζ ⟨b,i*5+4,ε⟩)])∧σ W.heap.size W w':=by
 obtain⟨b,junk,rfl,fw,-⟩:=cN h.v (by omega);have hiI:(i:Int)<(n:Int):=by omega
 have HI:Hid (∀X,bK w lo g (ζ ⟨b,0,ε⟩) n c Vs B m k Es C r rc G X→Ζ η 110 #[υ (ζ ⟨g,0,ε⟩),φ #[J o.s,J o.n]] X fun e w'=>e=.returned (J ((i:Int)))∧σ X.heap.size X w'):=qh (fun X hX=>by rw[←hid];exact fB g (ζ ⟨b,0,ε⟩) n c B m k C r rc o.s o.n Vs X hX.s (aK hX.v) (by omega));clear hid;have H:=qh h;clear h;go_enter Tryz.func131,Tryz.ntmps131;go_upto_region 1 with fail
 obtain⟨W1,aV⟩:=aB (W.alloc (δ (ak o).toArray 36));have aL:Hid (Whole W1 W.heap.size 36 (ak o)):=qh (by rw[←aV];exact Whole.new_ _ _ _);have cB:Hid (bK w lo g (ζ ⟨b,0,ε⟩) n c Vs B m k Es C r rc G W1):=qh (by rw[←aV];exact H.out.al _);have bE:Hid (σ W.heap.size W W1):=qh (by rw[←aV];exact az _ _);rw[aV];clear aV H;have Nb:Hid (W.heap.size≠g):=qh (aL.out.ne_ cB.out.s (by decide));obtain⟨b0,bp⟩:=aB W.heap.size;rw[bp] at aL Nb ⊢;clear bp;have rD:=aL.out.cell (i:=1) rfl;have sW:=aL.out.cell (i:=2) rfl;have AN:=aL.out.cell (i:=17) rfl
 go_upto_region 8 with (first
  |(go_at_call 110
    refine(HI.out _ cB.out).mono ?_
    rintro e w2 ⟨rfl,aP⟩;have cY:=qh (cB.out.bl aP);have bG:=qh (ag bE.out aP);clear aP cB aL bE rD sW AN))
 obtain⟨W3,kh⟩:=aB w2;rw[kh] at cY bG ⊢;clear kh;have fL:∀w',Kept aO W3.drew w'→w'.cell? ⟨g,0,ε⟩=ζ (γ (ζ ⟨b,0,ε⟩) n c):=fun w' h=>h.nil_cell (cY.out.dr.s.cell (i:=0) rfl)
 refine ay (aO) (by kernel_rfl) ?_;refine aa 0 ?_;refine aa 1 ?_;refine aa 2 ?_;refine aa 3 ?_;refine aa 4 ?_;refine aa 5 ?_;refine aa 6 ?_;refine aa 7 ?_;refine aa 8 ?_;refine aa 9 ?_;refine aa 10 ?_;refine aa 11 ?_;refine aa 12 ?_;refine aa 13 ?_;refine aa 14 ?_;refine aa 15 ?_;refine aa 16 ?_;refine aa 17 ?_;refine aF (by kernel_rfl) ?_ _;intro w8 cg;have nV:=qh (ag (aN bG.out) cg);clear cg bG cY fL;go_wp2;go_ret2
 first|exact⟨b,rfl,rfl,nV.out⟩|exact⟨b,rfl,by simp,nV.out⟩
theorem AB (h:bK w lo g A n c Vs B m k Es C r rc G W) (hn:n≤1000) (o:dR) (he:o.e=ρ) (hid:dX (fun v:VC=>v.1) Vs (o.s,o.n)= -1):Ζ η 131 #[υ (ζ ⟨g,0,ε⟩),φ (ak o).toArray] W fun e w'=>e=.returned (Ξ #[υ ε,υ ε])∧σ W.heap.size W w':=by
 have HI:Hid (∀X,bK w lo g A n c Vs B m k Es C r rc G X→Ζ η 110 #[υ (ζ ⟨g,0,ε⟩),φ #[J o.s,J o.n]] X fun e w'=>e=.returned (J (-1))∧σ X.heap.size X w'):=qh (fun X hX=>by rw[←hid];exact fB g A n c B m k C r rc o.s o.n Vs X hX.s (aK hX.v) (by omega));clear hid;have H:=qh h;clear h;go_enter Tryz.func131,Tryz.ntmps131;go_upto_region 1 with fail
 obtain⟨W1,aV⟩:=aB (W.alloc (δ (ak o).toArray 36));have aL:Hid (Whole W1 W.heap.size 36 (ak o)):=qh (by rw[←aV];exact Whole.new_ _ _ _);have cB:Hid (bK w lo g A n c Vs B m k Es C r rc G W1):=qh (by rw[←aV];exact H.out.al _);have bE:Hid (σ W.heap.size W W1):=qh (by rw[←aV];exact az _ _);rw[aV];clear aV H;have Nb:Hid (W.heap.size≠g):=qh (aL.out.ne_ cB.out.s (by decide));obtain⟨b0,bp⟩:=aB W.heap.size;rw[bp] at aL Nb ⊢;clear bp;have rD:=aL.out.cell (i:=1) rfl;have sW:=aL.out.cell (i:=2) rfl;have AN:=aL.out.cell (i:=17) rfl
 go_wp2_with (first
  |(go_at_call 110
    refine(HI.out _ cB.out).mono ?_
    rintro e w2 ⟨rfl,aP⟩;have cY:=qh (cB.out.bl aP);have bG:=qh (ag bE.out aP);clear aP cB aL bE rD sW AN))
 go_ret2;exact⟨rfl,bG.out⟩
theorem zi (h:bK w lo g A n c Vs B m k Es C r rc G W) (hS:gD (Vs.map vS,Es,G)) (o:dR) (kZ:(o.e=τ∧bI Es (o.s,o.n)=ρ)∨(o.e=ρ∧bu (Vs.map vS) (o.s,o.n)=ρ)):Ζ η 96 #[υ (ζ ⟨g,0,ε⟩),φ (ak o).toArray] W (cG w W lo g (setS (Vs.map vS,Es,G) (bL o) o.e (fV o))):=by
 obtain⟨hn,hm,hr,fy⟩:=hS.n24 h;have ni:n≤1000:=by omega
 have KZ:m≤1000:=by omega
 have HR:Hid (setS (Vs.map vS,Es,G) (bL o) o.e (fV o)=(dv,13)):=qh (by
  unfold setS bL;rcases kZ with⟨h1,h2⟩|⟨h1,h2⟩
  ·rw[if_pos h1,if_neg (by rw[h2];decide)]
  ·rw[if_neg (by rw[h1];decide),if_neg (by rw[h2];decide)])
 have HF:Hid (∀X,bK w lo g A n c Vs B m k Es C r rc G X→Ζ η 131 #[υ (ζ ⟨g,0,ε⟩),φ (ak o).toArray] X fun e w'=>e=.returned (Ξ #[υ ε,υ ε])∧σ X.heap.size X w'):=qh (fun X hX=>by
  rcases kZ with⟨h1,h2⟩|⟨h1,h2⟩
  ·exact Az hX KZ o h1 (dH (k:=fun v:EC=>v.1) (l:=Es) h2)
  ·exact AB hX ni o h1 (dH (k:=fun v:VC=>v.1) (l:=Vs) ((cx Vs _).trans h2)))
 clear kZ hS fy;have H:=qh h;clear h;go_enter Tryz.func96,Tryz.ntmps96;go_upto_region 1 with fail
 obtain⟨W1,aV⟩:=aB (W.alloc (δ (ak o).toArray 36));have aL:Hid (Whole W1 W.heap.size 36 (ak o)):=qh (by rw[←aV];exact Whole.new_ _ _ _);have cB:Hid (bK w lo g A n c Vs B m k Es C r rc G W1):=qh (by rw[←aV];exact H.out.al _);have bE:Hid (σ W.heap.size W W1):=qh (by rw[←aV];exact az _ _);rw[aV];clear aV H;have Nb:Hid (W.heap.size≠g):=qh (aL.out.ne_ cB.out.s (by decide));obtain⟨b0,bp⟩:=aB W.heap.size;rw[bp] at aL Nb ⊢;clear bp;refine Jam ?_;refine a7 (v:=?_) (ζ 8) rfl (by rfl) ?_ ?_;rotate_left
 ·go_simp;(try with_reducible rfl)
 simp only[ξ,aw,ar,aq];refine eJ (ζ 9) rfl (by rfl) 36 (.tmp 3) rfl b0 rfl 36 (ak o) _ aL.out Tryz.underlying36 rfl (by kernel_rfl) ?_;simp only[ξ,aw,ar,aq]
 go_wp2_with (first
  |(go_at_call 131
    refine(HF.out _ cB.out).mono ?_
    rintro e w2 ⟨rfl,aP⟩;have cY:=qh (cB.out.bl aP);have jG:=qh (aJ.of_below (g:=g) (ag bE.out aP));clear cB aP))
 go_ret;exact cG.no HR.out (by decide) rfl cY.out.below jG.out
theorem Ky (h:bK w lo g A n c Vs B m k Es C r rc G W) (hS:gD (Vs.map vS,Es,G)) (o:dR) (he:o.e=τ) (hh:bI Es (o.s,o.n)=τ) (hk:o.k=7):Ζ η 96 #[υ (ζ ⟨g,0,ε⟩),φ (ak o).toArray] W (cG w W lo g (setS (Vs.map vS,Es,G) (bL o) o.e (fV o))):=by
 obtain⟨hn,hm,hr,fy⟩:=hS.n24 h;have ni:n≤1000:=by omega
 have KZ:m≤1000:=by omega
 obtain⟨i,v,e1,e2,e3,e4⟩:=(ck (k:=fun v:EC=>v.1) (l:=Es) hh);have hi:i<m:=by rw[←h.elen];exact e4
 have e3:v.1=(o.s,o.n):=e3
 have HR:Hid (setS (Vs.map vS,Es,G) (bL o) o.e (fV o)=((Vs.map vS,o6 Es (o.s,o.n) (fV o),G),0)):=qh (by
  unfold setS bL;rw[if_pos he,if_pos hh])
 have hp:fV o v.2=(o.t,v.2.2):=(by unfold fV;rw[if_pos hk]);have HU:=qh (Dl hS.fit.eup e2 e3 (fV o));rw[hp] at HU;have HV:=qh e2;have HF:Hid (∀X,bK w lo g A n c Vs B m k Es C r rc G X→Ζ η 131 #[υ (ζ ⟨g,0,ε⟩),φ (ak o).toArray] X fun e w'=>∃b,B=ζ ⟨b,0,ε⟩∧e=.returned (Ξ #[υ (ζ ⟨b,i*4+2,ε⟩),υ (ζ ⟨b,i*4+3,ε⟩)])∧σ X.heap.size X w'):=qh (fun X hX=>tY hX KZ o he i hi e1);clear hS fy hh e1 e2 e3 e4 hp;have H:=qh h;clear h;go_enter Tryz.func96,Tryz.ntmps96;go_upto_region 1 with fail
 obtain⟨W1,aV⟩:=aB (W.alloc (δ (ak o).toArray 36));have aL:Hid (Whole W1 W.heap.size 36 (ak o)):=qh (by rw[←aV];exact Whole.new_ _ _ _);have cB:Hid (bK w lo g A n c Vs B m k Es C r rc G W1):=qh (by rw[←aV];exact H.out.al _);have bE:Hid (σ W.heap.size W W1):=qh (by rw[←aV];exact az _ _);rw[aV];clear aV H;have Nb:Hid (W.heap.size≠g):=qh (aL.out.ne_ cB.out.s (by decide));obtain⟨b0,bp⟩:=aB W.heap.size;rw[bp] at aL Nb ⊢;clear bp;refine Jam ?_;refine a7 (v:=?_) (ζ 8) rfl (by rfl) ?_ ?_;rotate_left
 ·go_simp;(try with_reducible rfl)
 simp only[ξ,aw,ar,aq];refine eJ (ζ 9) rfl (by rfl) 36 (.tmp 3) rfl b0 rfl 36 (ak o) _ aL.out Tryz.underlying36 rfl (by kernel_rfl) ?_;simp only[ξ,aw,ar,aq]
 go_wp2_with (first
  |(go_at_call 131
    refine(HF.out _ cB.out).mono ?_
    rintro e w2 ⟨b,hb,rfl,aP⟩;have cY:=qh (cB.out.bl aP);have aZ:=qh (aL.out.bl aP);have jG:=qh (aJ.of_below (g:=g) (ag bE.out aP));clear cB aP aL bE;obtain⟨b8,Xy,e9,-,-,EU,PT,iS,ff⟩:=cY.out.cellE (v':=(v.1,o.t,v.2.2)) (j:=2) (u:=.string o.t) HV.out (by decide) rfl
    obtain rfl:b=b8:=by
     rw[hb] at e9;injection e9 with e9
     injection e9
    have fe:=qh iS;have km:=qh (jG.out.trans ff);clear iS ff e9 hb;have lk:=aZ.out.cell (i:=0) rfl;have lt:=aZ.out.cell (i:=18) rfl;have lm:=aZ.out.cell (i:=19) rfl))
 go_ret;exact cG.yes HR.out rfl km.out fe.out (by rw[←HU.out])
theorem Kh (h:bK w lo g A n c Vs B m k Es C r rc G W) (hS:gD (Vs.map vS,Es,G)) (o:dR) (he:o.e=τ) (hh:bI Es (o.s,o.n)=τ) (hk:¬o.k=7):Ζ η 96 #[υ (ζ ⟨g,0,ε⟩),φ (ak o).toArray] W (cG w W lo g (setS (Vs.map vS,Es,G) (bL o) o.e (fV o))):=by
 obtain⟨hn,hm,hr,fy⟩:=hS.n24 h;have ni:n≤1000:=by omega
 have KZ:m≤1000:=by omega
 obtain⟨i,v,e1,e2,e3,e4⟩:=(ck (k:=fun v:EC=>v.1) (l:=Es) hh);have hi:i<m:=by rw[←h.elen];exact e4
 have e3:v.1=(o.s,o.n):=e3
 have HR:Hid (setS (Vs.map vS,Es,G) (bL o) o.e (fV o)=((Vs.map vS,o6 Es (o.s,o.n) (fV o),G),0)):=qh (by
  unfold setS bL;rw[if_pos he,if_pos hh])
 have hp:fV o v.2=(v.2.1,o.m):=(by unfold fV;rw[if_neg hk]);have HU:=qh (Dl hS.fit.eup e2 e3 (fV o));rw[hp] at HU;have HV:=qh e2;have HF:Hid (∀X,bK w lo g A n c Vs B m k Es C r rc G X→Ζ η 131 #[υ (ζ ⟨g,0,ε⟩),φ (ak o).toArray] X fun e w'=>∃b,B=ζ ⟨b,0,ε⟩∧e=.returned (Ξ #[υ (ζ ⟨b,i*4+2,ε⟩),υ (ζ ⟨b,i*4+3,ε⟩)])∧σ X.heap.size X w'):=qh (fun X hX=>tY hX KZ o he i hi e1);clear hS fy hh e1 e2 e3 e4 hp;have H:=qh h;clear h;go_enter Tryz.func96,Tryz.ntmps96;go_upto_region 1 with fail
 obtain⟨W1,aV⟩:=aB (W.alloc (δ (ak o).toArray 36));have aL:Hid (Whole W1 W.heap.size 36 (ak o)):=qh (by rw[←aV];exact Whole.new_ _ _ _);have cB:Hid (bK w lo g A n c Vs B m k Es C r rc G W1):=qh (by rw[←aV];exact H.out.al _);have bE:Hid (σ W.heap.size W W1):=qh (by rw[←aV];exact az _ _);rw[aV];clear aV H;have Nb:Hid (W.heap.size≠g):=qh (aL.out.ne_ cB.out.s (by decide));obtain⟨b0,bp⟩:=aB W.heap.size;rw[bp] at aL Nb ⊢;clear bp;refine Jam ?_;refine a7 (v:=?_) (ζ 8) rfl (by rfl) ?_ ?_;rotate_left
 ·go_simp;(try with_reducible rfl)
 simp only[ξ,aw,ar,aq];refine eJ (ζ 9) rfl (by rfl) 36 (.tmp 3) rfl b0 rfl 36 (ak o) _ aL.out Tryz.underlying36 rfl (by kernel_rfl) ?_;simp only[ξ,aw,ar,aq]
 go_wp2_with (first
  |(go_at_call 131
    refine(HF.out _ cB.out).mono ?_
    rintro e w2 ⟨b,hb,rfl,aP⟩;have cY:=qh (cB.out.bl aP);have aZ:=qh (aL.out.bl aP);have jG:=qh (aJ.of_below (g:=g) (ag bE.out aP));clear cB aP aL bE;obtain⟨b8,Xy,e9,-,-,EU,PT,iS,ff⟩:=cY.out.cellE (v':=(v.1,v.2.1,o.m)) (j:=3) (u:=J o.m) HV.out (by decide) rfl
    obtain rfl:b=b8:=by
     rw[hb] at e9;injection e9 with e9
     injection e9
    have fe:=qh iS;have km:=qh (jG.out.trans ff);clear iS ff e9 hb;have lk:=aZ.out.cell (i:=0) rfl;have lt:=aZ.out.cell (i:=18) rfl;have lm:=aZ.out.cell (i:=19) rfl))
 go_ret;exact cG.yes HR.out rfl km.out fe.out (by rw[←HU.out])
theorem JB (h:bK w lo g A n c Vs B m k Es C r rc G W) (hS:gD (Vs.map vS,Es,G)) (o:dR) (he:o.e=ρ) (hh:bu (Vs.map vS) (o.s,o.n)=τ) (hk:o.k=7):Ζ η 96 #[υ (ζ ⟨g,0,ε⟩),φ (ak o).toArray] W (cG w W lo g (setS (Vs.map vS,Es,G) (bL o) o.e (fV o))):=by
 obtain⟨hn,hm,hr,fy⟩:=hS.n24 h;have ni:n≤1000:=by omega
 have KZ:m≤1000:=by omega
 obtain⟨i,v,e1,e2,e3,e4⟩:=(ck (k:=fun v:VC=>v.1) (l:=Vs) ((cx Vs _).trans hh));have hi:i<n:=by rw[←h.vlen];exact e4
 have e3:v.1=(o.s,o.n):=e3
 have HR:Hid (setS (Vs.map vS,Es,G) (bL o) o.e (fV o)=((lg (Vs.map vS) (o.s,o.n) (fV o),Es,G),0)):=qh (by
  unfold setS bL;rw[if_neg (by rw[he];decide),if_pos hh])
 have hp:fV o v.2.2=(o.t,v.2.2.2):=(by unfold fV;rw[if_pos hk]);have HU:=qh (DM hS.fit.vup e2 e3 (fV o));rw[hp] at HU;have HV:=qh e2;have HF:Hid (∀X,bK w lo g A n c Vs B m k Es C r rc G X→Ζ η 131 #[υ (ζ ⟨g,0,ε⟩),φ (ak o).toArray] X fun e w'=>∃b,A=ζ ⟨b,0,ε⟩∧e=.returned (Ξ #[υ (ζ ⟨b,i*5+3,ε⟩),υ (ζ ⟨b,i*5+4,ε⟩)])∧σ X.heap.size X w'):=qh (fun X hX=>uE hX ni o he i hi e1);clear hS fy hh e1 e2 e3 e4 hp;have H:=qh h;clear h;go_enter Tryz.func96,Tryz.ntmps96;go_upto_region 1 with fail
 obtain⟨W1,aV⟩:=aB (W.alloc (δ (ak o).toArray 36));have aL:Hid (Whole W1 W.heap.size 36 (ak o)):=qh (by rw[←aV];exact Whole.new_ _ _ _);have cB:Hid (bK w lo g A n c Vs B m k Es C r rc G W1):=qh (by rw[←aV];exact H.out.al _);have bE:Hid (σ W.heap.size W W1):=qh (by rw[←aV];exact az _ _);rw[aV];clear aV H;have Nb:Hid (W.heap.size≠g):=qh (aL.out.ne_ cB.out.s (by decide));obtain⟨b0,bp⟩:=aB W.heap.size;rw[bp] at aL Nb ⊢;clear bp;refine Jam ?_;refine a7 (v:=?_) (ζ 8) rfl (by rfl) ?_ ?_;rotate_left
 ·go_simp;(try with_reducible rfl)
 simp only[ξ,aw,ar,aq];refine eJ (ζ 9) rfl (by rfl) 36 (.tmp 3) rfl b0 rfl 36 (ak o) _ aL.out Tryz.underlying36 rfl (by kernel_rfl) ?_;simp only[ξ,aw,ar,aq]
 go_wp2_with (first
  |(go_at_call 131
    refine(HF.out _ cB.out).mono ?_
    rintro e w2 ⟨b,hb,rfl,aP⟩;have cY:=qh (cB.out.bl aP);have aZ:=qh (aL.out.bl aP);have jG:=qh (aJ.of_below (g:=g) (ag bE.out aP));clear cB aP aL bE;obtain⟨b8,Xy,e9,-,-,EU,PT,iS,ff⟩:=cY.out.cellV (v':=(v.1,v.2.1,o.t,v.2.2.2)) (j:=3) (u:=.string o.t) HV.out (by decide) rfl (.inl rfl)
    obtain rfl:b=b8:=by
     rw[hb] at e9;injection e9 with e9
     injection e9
    have fe:=qh iS;have km:=qh (jG.out.trans ff);clear iS ff e9 hb;have lk:=aZ.out.cell (i:=0) rfl;have lt:=aZ.out.cell (i:=18) rfl;have lm:=aZ.out.cell (i:=19) rfl))
 go_ret;exact cG.yes HR.out rfl km.out fe.out (by rw[←HU.out])
theorem J5 (h:bK w lo g A n c Vs B m k Es C r rc G W) (hS:gD (Vs.map vS,Es,G)) (o:dR) (he:o.e=ρ) (hh:bu (Vs.map vS) (o.s,o.n)=τ) (hk:¬o.k=7):Ζ η 96 #[υ (ζ ⟨g,0,ε⟩),φ (ak o).toArray] W (cG w W lo g (setS (Vs.map vS,Es,G) (bL o) o.e (fV o))):=by
 obtain⟨hn,hm,hr,fy⟩:=hS.n24 h;have ni:n≤1000:=by omega
 have KZ:m≤1000:=by omega
 obtain⟨i,v,e1,e2,e3,e4⟩:=(ck (k:=fun v:VC=>v.1) (l:=Vs) ((cx Vs _).trans hh));have hi:i<n:=by rw[←h.vlen];exact e4
 have e3:v.1=(o.s,o.n):=e3
 have HR:Hid (setS (Vs.map vS,Es,G) (bL o) o.e (fV o)=((lg (Vs.map vS) (o.s,o.n) (fV o),Es,G),0)):=qh (by
  unfold setS bL;rw[if_neg (by rw[he];decide),if_pos hh])
 have hp:fV o v.2.2=(v.2.2.1,o.m):=(by unfold fV;rw[if_neg hk]);have HU:=qh (DM hS.fit.vup e2 e3 (fV o));rw[hp] at HU;have HV:=qh e2;have HF:Hid (∀X,bK w lo g A n c Vs B m k Es C r rc G X→Ζ η 131 #[υ (ζ ⟨g,0,ε⟩),φ (ak o).toArray] X fun e w'=>∃b,A=ζ ⟨b,0,ε⟩∧e=.returned (Ξ #[υ (ζ ⟨b,i*5+3,ε⟩),υ (ζ ⟨b,i*5+4,ε⟩)])∧σ X.heap.size X w'):=qh (fun X hX=>uE hX ni o he i hi e1);clear hS fy hh e1 e2 e3 e4 hp;have H:=qh h;clear h;go_enter Tryz.func96,Tryz.ntmps96;go_upto_region 1 with fail
 obtain⟨W1,aV⟩:=aB (W.alloc (δ (ak o).toArray 36));have aL:Hid (Whole W1 W.heap.size 36 (ak o)):=qh (by rw[←aV];exact Whole.new_ _ _ _);have cB:Hid (bK w lo g A n c Vs B m k Es C r rc G W1):=qh (by rw[←aV];exact H.out.al _);have bE:Hid (σ W.heap.size W W1):=qh (by rw[←aV];exact az _ _);rw[aV];clear aV H;have Nb:Hid (W.heap.size≠g):=qh (aL.out.ne_ cB.out.s (by decide));obtain⟨b0,bp⟩:=aB W.heap.size;rw[bp] at aL Nb ⊢;clear bp;refine Jam ?_;refine a7 (v:=?_) (ζ 8) rfl (by rfl) ?_ ?_;rotate_left
 ·go_simp;(try with_reducible rfl)
 simp only[ξ,aw,ar,aq];refine eJ (ζ 9) rfl (by rfl) 36 (.tmp 3) rfl b0 rfl 36 (ak o) _ aL.out Tryz.underlying36 rfl (by kernel_rfl) ?_;simp only[ξ,aw,ar,aq]
 go_wp2_with (first
  |(go_at_call 131
    refine(HF.out _ cB.out).mono ?_
    rintro e w2 ⟨b,hb,rfl,aP⟩;have cY:=qh (cB.out.bl aP);have aZ:=qh (aL.out.bl aP);have jG:=qh (aJ.of_below (g:=g) (ag bE.out aP));clear cB aP aL bE;obtain⟨b8,Xy,e9,-,-,EU,PT,iS,ff⟩:=cY.out.cellV (v':=(v.1,v.2.1,v.2.2.1,o.m)) (j:=4) (u:=J o.m) HV.out (by decide) rfl (.inl rfl)
    obtain rfl:b=b8:=by
     rw[hb] at e9;injection e9 with e9
     injection e9
    have fe:=qh iS;have km:=qh (jG.out.trans ff);clear iS ff e9 hb;have lk:=aZ.out.cell (i:=0) rfl;have lt:=aZ.out.cell (i:=18) rfl;have lm:=aZ.out.cell (i:=19) rfl))
 go_ret;exact cG.yes HR.out rfl km.out fe.out (by rw[←HU.out])
theorem ON (h:bK w lo g A n c Vs B m k Es C r rc G W) (hS:gD (Vs.map vS,Es,G)) (o:dR):Ζ η 96 #[υ (ζ ⟨g,0,ε⟩),φ (ak o).toArray] W (cG w W lo g (setS (Vs.map vS,Es,G) (bL o) o.e (fV o))):=by
 cases he:o.e with
 |true=>
  rw[←he];cases hh:bI Es (o.s,o.n) with
  |true=>by_cases hk:o.k=7;exact Ky h hS o he hh hk;exact Kh h hS o he hh hk
  |false=>exact zi h hS o (.inl ⟨he,hh⟩)
 |false=>
  rw[←he];cases hh:bu (Vs.map vS) (o.s,o.n) with
  |true=>by_cases hk:o.k=7;exact JB h hS o he hh hk;exact J5 h hS o he hh hk
  |false=>exact zi h hS o (.inr ⟨he,hh⟩)
end
theorem lJ (a b x y:Int) (X:ο):(binOp .eql 30 (φ #[J a,J b]) (φ #[J x,J y])).run η X=.ok (.bool (decide ((a,b)=(x,y)))) X:=by
 by_cases h1:a=x
 ·by_cases h2:b=y
  ·simp[go_sem,h1,h2]
  ·simp[go_sem,h1,h2]
 ·simp[go_sem,h1]
theorem G0 (a b c x y z:Int) (X:ο):(binOp .eql 32 (φ #[J a,J b,J c]) (φ #[J x,J y,J z])).run η X=.ok (.bool (decide ((a,b,c)=(x,y,z)))) X:=by
 by_cases h1:a=x
 ·by_cases h2:b=y
  ·by_cases h3:c=z
   ·simp[go_sem,h1,h2,h3]
   ·simp[go_sem,h1,h2,h3]
  ·simp[go_sem,h1,h2]
 ·simp[go_sem,h1]
theorem gD.linked {S:SS} (h:gD S) {x:Nm} (m1:dK x.1 x.2=τ) (hE:bI S.2.1 x=ρ) (hl:¬40≤S.2.1.length) {a b:Nm × D} (ha:bu S.1 a.1=τ) (hb:bu S.1 b.1=τ):
 gD (cO (cO S.1 a (bh x 0)) b (bh x 1),gH S.2.1 (x,ByteArray.empty,0),S.2.2):=by
 refine⟨h.fit.link hE ha hb _,by show(cO _ _ _).length≤24;unfold cO;rw[fE,fE];exact h.v24,by show(gH _ _).length≤40;unfold gH;rw[ll];omega,h.g400,?_,fun e he=>?_,h.gr⟩
 ·exact jU (P:=fun x t=>dK x.1 x.2=τ∧cQ t.1=τ∧eR t.2=τ) (jU (P:=fun x t=>dK x.1 x.2=τ∧cQ t.1=τ∧eR t.2=τ) h.vm)
 ·rcases cy.1 he with rfl|he
  ·exact⟨m1,pg,o4⟩
  ·exact h.em e he
section
variable {w W:ο} {lo g:Nat} {A:Option Κ} {n c:Nat} {Vs:List VC} {B:Option Κ} {m k:Nat} {Es:List EC} {C:Option Κ} {r rc:Nat} {G:List Gn}
theorem Mx (h:bK w lo g A n c Vs B m k Es C r rc G W) (hS:gD (Vs.map vS,Es,G)) (o:dR) (hk:o.k=1):Ζ η 68 #[υ (ζ ⟨g,0,ε⟩),φ (ak o).toArray] W (cG w W lo g (bQ (Vs.map vS,Es,G) o)):=by
 have tT:=qh hS;have HR:Hid (bQ (Vs.map vS,Es,G) o=og (Vs.map vS,Es,G) (bL o)):=qh (by unfold bQ;rw[if_pos hk]);clear hS;have H:=qh h;clear h;go_enter Tryz.func68,Tryz.ntmps68;go_upto_region 1 with fail
 obtain⟨W1,aV⟩:=aB (W.alloc (δ (ak o).toArray 36));have aL:Hid (Whole W1 W.heap.size 36 (ak o)):=qh (by rw[←aV];exact Whole.new_ _ _ _);have cB:Hid (bK w lo g A n c Vs B m k Es C r rc G W1):=qh (by rw[←aV];exact H.out.al _);have bE:Hid (σ W.heap.size W W1):=qh (by rw[←aV];exact az _ _);rw[aV];clear aV H;have Nb:Hid (W.heap.size≠g):=qh (aL.out.ne_ cB.out.s (by decide));obtain⟨b0,bp⟩:=aB W.heap.size;rw[bp] at aL Nb ⊢;clear bp;have oM:=qh (aJ.of_below (g:=g) bE.out);have O4:=aL.out.cell (i:=0) rfl;have rD:=aL.out.cell (i:=1) rfl;have sW:=aL.out.cell (i:=2) rfl;go_upto_region 3 with fail
 go_wp2_with (first
  |(go_at_call 90
    refine(JE cB.out tT.out o.s o.n).mono ?_
    rintro e w2 ⟨rfl,aP,rC,lB⟩;have bG:=qh aP;have xN:=qh lB;have jG:=qh (oM.out.trans rC);clear aP lB rC cB aL bE))
 go_ret;rw[HR.out];exact⟨rfl,bG.out,jG.out,xN.out⟩
theorem Ov (h:bK w lo g A n c Vs B m k Es C r rc G W) (hS:gD (Vs.map vS,Es,G)) (o:dR) (hk:o.k=2):Ζ η 68 #[υ (ζ ⟨g,0,ε⟩),φ (ak o).toArray] W (cG w W lo g (bQ (Vs.map vS,Es,G) o)):=by
 have tT:=qh hS;have HR:Hid (bQ (Vs.map vS,Es,G) o=oc (Vs.map vS,Es,G) (bL o)):=qh (by unfold bQ;rw[if_neg (by rw[hk];decide),if_pos hk]);clear hS;have H:=qh h;clear h;go_enter Tryz.func68,Tryz.ntmps68;go_upto_region 1 with fail
 obtain⟨W1,aV⟩:=aB (W.alloc (δ (ak o).toArray 36));have aL:Hid (Whole W1 W.heap.size 36 (ak o)):=qh (by rw[←aV];exact Whole.new_ _ _ _);have cB:Hid (bK w lo g A n c Vs B m k Es C r rc G W1):=qh (by rw[←aV];exact H.out.al _);have bE:Hid (σ W.heap.size W W1):=qh (by rw[←aV];exact az _ _);rw[aV];clear aV H;have Nb:Hid (W.heap.size≠g):=qh (aL.out.ne_ cB.out.s (by decide));obtain⟨b0,bp⟩:=aB W.heap.size;rw[bp] at aL Nb ⊢;clear bp;have oM:=qh (aJ.of_below (g:=g) bE.out);have O4:=aL.out.cell (i:=0) rfl;have rD:=aL.out.cell (i:=1) rfl;have sW:=aL.out.cell (i:=2) rfl;have n1:¬o.k=1:=by rw[hk];decide
 go_upto_region 5 with fail
 go_wp2_with (first
  |(go_at_call 91
    refine(I7 cB.out tT.out o.s o.n).mono ?_
    rintro e w2 ⟨rfl,aP,rC,lB⟩;have bG:=qh aP;have xN:=qh lB;have jG:=qh (oM.out.trans rC);clear aP lB rC cB aL bE))
 go_ret;rw[HR.out];exact⟨rfl,bG.out,jG.out,xN.out⟩
theorem LK (h:bK w lo g A n c Vs B m k Es C r rc G W) (hS:gD (Vs.map vS,Es,G)) (o:dR) (n1:¬o.k=1) (n2:¬o.k=2) (n3:¬o.k=3) (n4:¬o.k=4) (n5:¬o.k=5) (n6:¬o.k=6):Ζ η 68 #[υ (ζ ⟨g,0,ε⟩),φ (ak o).toArray] W (cG w W lo g (bQ (Vs.map vS,Es,G) o)):=by
 have tT:=qh hS;have HR:Hid (bQ (Vs.map vS,Es,G) o=setS (Vs.map vS,Es,G) (bL o) o.e (fV o)):=qh (by unfold bQ;rw[if_neg n1,if_neg n2,if_neg n3,if_neg n4,if_neg n5,if_neg n6]);clear hS;have H:=qh h;clear h;go_enter Tryz.func68,Tryz.ntmps68;go_upto_region 1 with fail
 obtain⟨W1,aV⟩:=aB (W.alloc (δ (ak o).toArray 36));have aL:Hid (Whole W1 W.heap.size 36 (ak o)):=qh (by rw[←aV];exact Whole.new_ _ _ _);have cB:Hid (bK w lo g A n c Vs B m k Es C r rc G W1):=qh (by rw[←aV];exact H.out.al _);have bE:Hid (σ W.heap.size W W1):=qh (by rw[←aV];exact az _ _);rw[aV];clear aV H;have Nb:Hid (W.heap.size≠g):=qh (aL.out.ne_ cB.out.s (by decide));obtain⟨b0,bp⟩:=aB W.heap.size;rw[bp] at aL Nb ⊢;clear bp;have oM:=qh (aJ.of_below (g:=g) bE.out);have O4:=aL.out.cell (i:=0) rfl;go_upto_region 14 with fail
 clear O4;refine Jam ?_;refine a7 (v:=?_) (ζ 40) rfl (by rfl) ?_ ?_;rotate_left
 ·go_simp;(try with_reducible rfl)
 simp only[ξ,aw,ar,aq];refine eJ (ζ 41) rfl (by rfl) 36 (.tmp 3) rfl b0 rfl 36 (ak o) _ aL.out Tryz.underlying36 rfl (by kernel_rfl) ?_;simp only[ξ,aw,ar,aq]
 go_wp2_with (first
  |(go_at_call 96
    refine(ON cB.out tT.out o).mono ?_
    rintro e w2 ⟨rfl,aP,rC,lB⟩;have bG:=qh aP;have xN:=qh lB;have jG:=qh (oM.out.trans rC);clear aP lB rC cB aL bE))
 go_ret;rw[HR.out];exact⟨rfl,bG.out,jG.out,xN.out⟩
end
structure mh (W:ο) (lo:Nat) (A:Option Κ) (n c:Nat) (Vs:List VC) (B:Option Κ) (m k:Nat) (Es:List EC) (C:Option Κ) (r rc:Nat) (G:List Gn):Prop where
 v:W.ownsRow lo 59 5 (γ A n c) n (ah vC Vs)
 e:W.ownsRow lo 67 4 (γ B m k) m (ah eC Es)
 rg:∀x∈Vs,ko W x.2.1
 gn:W.ownsRow lo 98 6 (γ C r rc) r (ah cZ G)
theorem oY {W:ο} {lo k n c g:Nat} {A:Option Κ} {T T':TypeId} {xs cs:List Value} (h:W.ownsRow lo T k (γ A n c) n xs) (hw:Whole W g T' cs) (hT:T'≠T) (qy:Array Value):(W.setRow g qy).ownsRow lo T k (γ A n c) n xs:=
 h.kept (ir (bN (S:=fun x=>x=g) rfl qy)) (.inr (Ne.symm (bD h hw hT)))
section
variable {W W':ο} {lo:Nat} {A:Option Κ} {n c:Nat} {Vs:List VC} {B:Option Κ} {m k:Nat} {Es:List EC} {C:Option Κ} {r rc:Nat} {G:List Gn}
theorem mh.up (h:mh W lo A n c Vs B m k Es C r rc G) (hb:σ W.heap.size W W'):mh W' lo A n c Vs B m k Es C r rc G:=
 ⟨bo h.v hb,bo h.e hb,fun x hx=>(h.rg x hx).bl hb,bo h.gn hb⟩
theorem mh.row {g:Nat} {cs:List Value} (h:mh W lo A n c Vs B m k Es C r rc G) (hw:Whole W g 28 cs) (qy:Array Value):mh (W.setRow g qy) lo A n c Vs B m k Es C r rc G:=
 ⟨oY h.v hw (by decide) _,oY h.e hw (by decide) _,fun x hx=>(h.rg x hx).row hw (by decide) _,oY h.gn hw (by decide) _⟩
theorem ud (h:bz W A n c Vs B m k Es) (hg:bg W W.heap.size 6 C r rc (ah cZ G)) (hn:n≤1000) (hm:m≤1000) (hr:r≤1000) (fy:∀x∈Vs,x.2.1.2.1≤1000000):
 Ζ η 55 #[φ #[γ A n c,γ B m k,γ C r rc]] W fun e w'=>∃A' c' B' k' C' iv Ws,e=.returned (φ #[γ A' n c',γ B' m k',γ C' r iv])∧mh w' W.heap.size A' n c' Ws B' m k' Es C' r iv G∧Ws.map vS=Vs.map vS∧σ W.heap.size W w':=by
 have fp:σ W.heap.size W ((W.alloc (δ #[γ A n c,γ B m k,γ C r rc] 28)).alloc (δ #[γ ε 0 0,γ ε 0 0,γ ε 0 0] 28)):=aI (az W _) _;have HH:=qh (h.below fp);have HG:=qh (hg.bl fp);have HB:=qh fp;have aQ:Hid (Whole ((W.alloc (δ #[γ A n c,γ B m k,γ C r rc] 28)).alloc (δ #[γ ε 0 0,γ ε 0 0,γ ε 0 0] 28)) W.heap.size 28 [γ A n c,γ B m k,γ C r rc]):=qh ((Whole.new_ _ _ [_,_,_]).al _);have mf:Hid (Whole ((W.alloc (δ #[γ A n c,γ B m k,γ C r rc] 28)).alloc (δ #[γ ε 0 0,γ ε 0 0,γ ε 0 0] 28)) (W.heap.size+1) 28 [γ ε 0 0,γ ε 0 0,γ ε 0 0]):=qh (Whole.new2 (by simp));have BG:=qh fy;clear h hg fp fy;go_enter Tryz.func55,Tryz.ntmps55;go_upto_region 1 with fail
 obtain⟨W0,bO⟩:=aB (((W.alloc (δ #[γ A n c,γ B m k,γ C r rc] 28)).alloc (δ #[γ ε 0 0,γ ε 0 0,γ ε 0 0] 28)));obtain⟨b2,jc⟩:=aB (W.heap.size+1);obtain⟨b1,dE⟩:=aB W.heap.size;have L2:Hid (W.heap.size≤b2):=qh (by omega);have n12:b1≠b2:=by omega
 rw[bO] at HH HG HB aQ mf ⊢;rw[jc] at mf ⊢;rw[dE] at aQ ⊢;clear bO dE jc;have fL:∀w',Kept (fun b=>b=b2) W0.drew w'→w'.cell? ⟨b1,0,ε⟩=ζ (γ A n c):=fun w' h=>h.cell (aQ.out.dr.cell (i:=0) rfl) n12
 have ld1:∀w',Kept (fun b=>b=b2) W0.drew w'→w'.cell? ⟨b1,1,ε⟩=ζ (γ B m k):=fun w' h=>h.cell (aQ.out.dr.cell (i:=1) rfl) n12
 have ka:∀w',Kept (fun b=>b=b2) W0.drew w'→w'.cell? ⟨b1,2,ε⟩=ζ (γ C r rc):=fun w' h=>h.cell (aQ.out.dr.cell (i:=2) rfl) n12
 refine ay (fun b=>b=b2) (by kernel_rfl) ?_;refine aa 0 ?_;refine aa 1 ?_;refine aa 3 ?_;refine aa 4 ?_;refine mw 2 ?_;intro w' aC
 refine(Kv A n c Vs B m k Es w' (HH.out.below ((Θ _ W0).drew.trans (aC.mono (Δ _)))) (by omega) (by omega) BG.out).mono ?_
 rintro e w5 ⟨A5,c5,B5,k5,Ws,rfl,Ph,S1,fP⟩
 refine⟨_,rfl,Kept.of_below fP,?_⟩
 have bC:=((Θ _ W0).drew.trans (aC.mono (Δ _)));have fw:W.heap.size≤w'.heap.size:=Λ HB.out.size (Λ (by exact Δ _) aC.size);have Sn:=qh (eG Ph.v fw);have HE5:=qh (eG Ph.e fw);have HR5:Hid (∀x∈Ws,ko w5 x.2.1):=qh (fun x hx=>ko.of_own (Ph.r.own x hx));have Qm:=qh S1;have O6:=qh ((HG.out.bl bC).bl fP);have DF:=qh ((mf.out.bl bC).bl fP);have kF:=qh (ag (ag HB.out bC) fP);clear aC bC fw Ph S1 fP HH HG mf HB aQ fL ld1 ka;simp only[ξ,aw,ar,aq];refine mw 5 ?_;intro w' aC
 refine(GF C r rc (ah cZ G) w' (O6.out.bl aC) (bU cZ kz G) (by omega)).mono ?_
 rintro e w8 ⟨C8,CE,rfl,Tu⟩
 refine⟨_,rfl,Kept.of_below Tu.below,?_⟩
 have kj:Hid (mh w8 W.heap.size A5 n c5 Ws B5 m k5 Es C8 r CE G):=qh ⟨bo (bo Sn.out aC) Tu.below,bo (bo HE5.out aC) Tu.below,fun x hx=>((HR5.out x hx).bl aC).bl Tu.below,eG Tu.own (Λ kF.out.size aC.size)⟩;have Tm:=qh ((DF.out.bl aC).bl Tu.below);have nV:=qh (ag (ag kF.out aC) Tu.below);clear aC Tu Sn HE5 HR5 O6 DF kF;simp only[ξ,aw,ar,aq];refine aa 6 ?_;refine gI 7 ?_;intro w' aC
 refine⟨w'.setRow b2 #[γ A5 n c5,γ B5 m k5,γ C8 r CE],aR 28 (.tmp 2) (.tmp 9) rfl b2 rfl [γ A5 n c5,γ B5 m k5,γ C8 r CE] rfl 28 [γ ε 0 0,γ ε 0 0,γ ε 0 0] (Tm.out.bl aC) (by kernel_rfl) rfl (by simp[Value.oneCell']),bN (S:=fun b=>b=b2) rfl _,?_⟩
 have fe:=qh ((kj.out.up aC).row (Tm.out.bl aC) #[γ A5 n c5,γ B5 m k5,γ C8 r CE]);have Kf:=qh (Whole.row (Tm.out.bl aC) [γ A5 n c5,γ B5 m k5,γ C8 r CE]);have oC:=qh (bH (ag nV.out aC) L2.out #[γ A5 n c5,γ B5 m k5,γ C8 r CE]);obtain⟨V3,Oi⟩:=aB (w'.setRow b2 #[γ A5 n c5,γ B5 m k5,γ C8 r CE]);rw[Oi] at fe Kf oC ⊢;clear aC Oi kj Tm nV;(try simp only[ξ,aw,ar,aq]);refine aF (by kernel_rfl) ?_ _;intro wa Pb;have Rx:=qh (fe.out.up Pb);have Pk:=qh (Kf.out.bl Pb);have lX:=qh (ag oC.out Pb);clear Pb fe Kf oC;go_wp2;exact xm rfl b2 rfl Pk.out Tryz.underlying28 rfl (by kernel_rfl) rfl ⟨A5,c5,B5,k5,C8,CE,Ws,rfl,Rx.out,Qm.out,lX.out⟩
end
end Go.Proofs.YtpdpbfmiahjiiaaGreat
