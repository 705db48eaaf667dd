/- Several texts in one. -/
import Derived.Test.YtpdpbfmiahjiiaaGreatPzA
import Derived.Laws.RangeAny
import Derived.Laws.RangeString
import Derived.LoopTactic
import Derived.Maps.OwnSet
import Derived.Deep.MidRow
import Derived.Deep.CutBlock
import Derived.DeepKeys4
import Derived.Laws.ResultCell
import Derived.WalkMore
import Derived.Shelf.Spec.SlicesInsert
import Derived.Shelf.Spec.SlicesInsertGrow
set_option linter.unusedSectionVars false
set_option linter.unusedSimpArgs false
set_option linter.unusedVariables false
set_option maxRecDepth 100000
set_option maxHeartbeats 16000000
namespace Go.Proofs.YtpdpbfmiahjiiaaGreat
open Go.RowKit
open _root_.Go.Value renaming slice→γ,string→μ,pointer→υ,agg→φ,bool→Β,tuple→Ξ,slice→Ο,oneCell'→Τ,agg→JbL
open _root_.Go.Obj renaming cells→δ
open _root_.Option renaming none→ε,some→ζ,some→Jae
open _root_.Go.Proofs.Tryz renaming prog→η
open _root_.List renaming getElem?_eq_getElem→θ,getElem?_eq_some_iff→ν,mem_of_getElem?→ω,length_append→Ε,take_of_length_le→Ι,drop_eq_getElem_cons→Χ,getElem?_append_left→Jab,drop_of_length_le→Jak,drop_eq_nil_of_le→Jav,append_assoc→Jay,length_drop→Jaz,length_take→JaA,eq_nil_of_length_eq_zero→JaB,nil_append→JaF,take_succ_eq_append_getElem→JaQ,drop_append→JaR,getElem?_drop→JaS,append_nil→Jbi,take_append→Jbt,mem_of_mem_drop→JbC,take_zero→JbQ
open _root_.Go.Act renaming put→ξ
open _root_.Go renaming World→ο,Value→ψ,Calls→Ζ,Addr→Κ,TypeId→Υ,maxLen→Jap,Program→JaE,bodyPost_ret→JaN
open _root_.Bool renaming false→ρ,true→τ
open _root_.Go.RowKit renaming Below→σ
open _root_.Nat renaming le_refl→Δ,le_trans→Λ,add_zero→Jac,zero_le→Jas,zero_add→JaI,lt_or_ge→JaM,sub_self→JaP,mod_eq_of_lt→JbE,min_def→JbR
open _root_.Go.RowKit.Below renaming refl→Θ
open _root_.Option.some renaming inj→Μ
open _root_.Go.Addr renaming add_lit→Ν
open _root_.Go.IntKind renaming i64→Jaw,wrap_i64→JaT
open _root_.Go.Builtin renaming zeroCells→JaO,copy_→Jbr
open _root_.Prod.mk renaming injEq→Jba
open _root_.Go.Sem renaming run_bind→Jbl
open _root_.Go.Result renaming andThen→Jbw
open _root_.Go.World renaming setCell→JbB
open _root_.Go.Departure renaming mixedOrders→JbG
open _root_.Go.Lib renaming run_eql_slice_nil→JbH
def okB (c:UInt8):Bool:=decide (32≤c.toNat∧c.toNat≤126)
def cQ (s:ByteArray):Bool:=decide (s.size≤16) && s.data.toList.all okB
theorem FB (s:ByteArray) (k:Nat) (h:k<s.size):s.data.toList.take (k+1)=s.data.toList.take k++[s[k]]:=by
 rw[JaQ (by simpa using h)];rfl
theorem zJ (s:ByteArray) (k:Nat) (h:k<s.size) (ha:(s.data.toList.take k).all okB=τ) (hk:okB s[k]=τ):(s.data.toList.take (k+1)).all okB=τ:=by
 rw[FB s k h,List.all_append,ha];simp[hk]
theorem rI (s:ByteArray) (k:Nat) (h:k<s.size) (hk:okB s[k]=ρ):s.data.toList.all okB=ρ:=by
 rw[List.all_eq_false]
 refine⟨s[k],?_,by simp[hk]⟩
 show s.data[k]∈s.data.toList;simp
theorem CJ (s:ByteArray) (k:Nat) (h:s.size≤k) (ha:(s.data.toList.take k).all okB=τ):s.data.toList.all okB=τ:=by
 rwa [Ι (by simpa using h)] at ha
theorem Kc (s:ByteArray) (pos:Nat) (h:pos<s.size):∃c wd,Utf8.decode s pos=(c,wd)∧1≤wd∧((s[pos].toNat<128∧c=s[pos].toNat∧wd=1)∨(128≤s[pos].toNat∧128≤c)):=by
 by_cases ha:s[pos].toNat<128
 ·exact⟨_,_,decode_ascii s pos h ha,Δ _,.inl ⟨ha,rfl,rfl⟩⟩
 ·have hh:=decode_high s pos h (by omega);exact⟨_,_,rfl,hh.2,.inr ⟨by omega,hh.1⟩⟩
theorem CO (P:JaE) (w:ο) (s:ByteArray) (pos:Nat) (h:pos<s.size) {c wd:Nat} (hd:Utf8.decode s pos=(c,wd)) (ty:Υ):
 (Instr.next (υ (ζ ⟨w.heap.size,0,ε⟩)) τ ty).run P (w.iter s pos)=.ok (Ξ #[Β τ,J pos,.int .i32 c]) (w.iter s (pos+wd)):=by
 simp only[Instr.next,getObj,setObj,Jbl,Sem.run,World.iter_heap,Jbw,h,if_true,hd,World.iter_set];simp[goInt,Sem.run,World.iter_heap,World.iter_set]
theorem rN (s:ByteArray):Pure 67 #[μ s] (Β (cQ s)):=fun w=>by
 by_cases Qu:s.size≤16
 case neg=>
  have hr:cQ s=ρ:=by simp[cQ,Qu]
  have hq:decide ((16:Int)<(s.size:Int))=τ:=decide_eq_true (by omega);rw[hr];clear hr Qu;go_enter Tryz.func67,Tryz.ntmps67;go_wp2;go_ret;exact⟨rfl,Θ _ _⟩
 have hq:decide ((16:Int)<(s.size:Int))=ρ:=decide_eq_false (by omega);have HS:=qh Qu;clear Qu;go_enter Tryz.func67,Tryz.ntmps67;go_wp2;clear hq;go_loopw [] (fun w'=>∃pos:Nat,w'=w.iter s pos∧(s.data.toList.take pos).all okB=τ) (fun w'=>s.size - w'.iterPos w.heap.size)
 case atStart=>exact⟨0,rfl,by simp⟩
 case round=>
  obtain⟨pos,rfl,ha⟩:=hrel;have HA:=qh ha;clear ha
  by_cases hp:pos<s.size
  ·obtain⟨c,wd,hd,hwd,hc⟩:=Kc s pos hp;have tR:=fun ty=>CO η w s pos hp hd ty
   have HW:=qh hwd;clear hd hwd
   by_cases c1:32≤c
   ·by_cases c2:c≤126
    ·have q1:decide ((c:Int)<32)=ρ:=decide_eq_false (by omega);have q2:decide ((126:Int)<(c:Int))=ρ:=decide_eq_false (by omega);have EF:=qh c1;have HC2:=qh c2;clear c1 c2;have HC:=qh hc;have HP:=qh hp;clear hc;go_wp2;go_roundw
     case rel=>
      rcases HC.out with⟨h1,rfl,rfl⟩|⟨h1,h2⟩
      ·exact⟨pos+1,rfl,zJ s pos hp HA.out (by have a:=EF.out;have b:=HC2.out;simpa [okB] using ⟨a,b⟩)⟩
      ·have:=HC2.out
       omega
     case measure=>
      have a:=hp;have b:=HW.out;simp;omega
    ·have q1:decide ((c:Int)<32)=ρ:=decide_eq_false (by omega);have q2:decide ((126:Int)<(c:Int))=τ:=decide_eq_true (by omega)
     have hr:cQ s=ρ:=by
      have:okB (s[pos]'hp)=ρ:=by
       rcases hc with⟨h1,h2,h3⟩|⟨h1,h2⟩
       ·simp[okB];omega
       ·simp[okB];omega
      simp[cQ,rI s pos hp this]
     have HR:=qh hr;clear c1 c2 hr;go_wp2;go_ret;exact⟨kY HR.out.symm,az _ _⟩
   ·have q1:decide ((c:Int)<32)=τ:=decide_eq_true (by omega)
    have hr:cQ s=ρ:=by
     have:okB (s[pos]'hp)=ρ:=by
      rcases hc with⟨h1,h2,h3⟩|⟨h1,h2⟩
      ·simp[okB];omega
      ·omega
     simp[cQ,rI s pos hp this]
    have HR:=qh hr;clear c1 hr;go_wp2;go_ret;exact⟨kY HR.out.symm,az _ _⟩
  ·have hr:cQ s=τ:=by simp[cQ,HS.out,CJ s pos (by omega) HA.out]
   have tR:∀ty,(Instr.next (υ (ζ ⟨w.heap.size,0,ε⟩)) τ ty).run η (w.iter s pos)=_:=fun ty=>run_next_end w s pos ty hp
   have HR:=qh hr;clear hp hr;go_wp2;go_ret;exact⟨kY HR.out.symm,az _ _⟩
theorem qp (s:ByteArray) (hs:s.size≤Jap):Pure 37 #[μ s] (Β (cQ s)):=fun w=>by
 unfold Jap at hs;go_enter Tryz.func37,Tryz.ntmps37;go_wp2;go_loop [3] (fun i=>∃k:Nat,k≤s.size∧i=J k∧(s.data.toList.take k).all okB=τ) (fun i=>s.size - (intOf i).toNat)
 case atStart=>exact⟨0,Jas _,rfl,by simp⟩
 case round=>
  obtain⟨k,hk,rfl,ha⟩:=hrel;have HA:=qh ha;clear ha
  by_cases dz:k<s.size
  ·obtain⟨c,gc⟩:∃c:UInt8,c=s[k]:=⟨_,rfl⟩
   have HGC:=qh gc
   by_cases c1:32≤c.toNat
   ·by_cases c2:c.toNat≤126
    ·have q1:decide ((c.toNat:Int)<32)=ρ:=decide_eq_false (by omega);have q2:decide ((126:Int)<(c.toNat:Int))=ρ:=decide_eq_false (by omega);rw[gc] at q1 q2;have HK:Hid (okB c=τ):=qh (by simp[okB];omega);clear c1 c2 gc;go_wp2;go_round
     case rel=>exact⟨k+1,by omega,by go_num,zJ s k dz HA.out (HGC.out▸HK.out)⟩
     case measure=>simp[intOf];omega
    ·have q1:decide ((c.toNat:Int)<32)=ρ:=decide_eq_false (by omega);have q2:decide ((126:Int)<(c.toNat:Int))=τ:=decide_eq_true (by omega);rw[gc] at q1 q2
     have hr:cQ s=ρ:=by
      have:okB (s[k]'dz)=ρ:=by rw[←gc];simp[okB];omega
      simp[cQ,rI s k dz this]
     have HR:=qh hr;clear c1 c2 gc hr;go_wp2;go_ret;exact⟨kY HR.out.symm,Θ _ _⟩
   ·have q1:decide ((c.toNat:Int)<32)=τ:=decide_eq_true (by omega);rw[gc] at q1
    have hr:cQ s=ρ:=by
     have:okB (s[k]'dz)=ρ:=by rw[←gc];simp[okB];omega
     simp[cQ,rI s k dz this]
    have HR:=qh hr;clear c1 gc hr;go_wp2;go_ret;exact⟨kY HR.out.symm,Θ _ _⟩
  ·have hr:cQ s=decide (s.size≤16):=by simp[cQ,CJ s k (by omega) HA.out]
   by_cases Qu:s.size≤16
   ·rw[decide_eq_true Qu] at hr;have HR:=qh hr;have q:decide ((s.size:Int)≤16)=τ:=decide_eq_true (by omega);clear hr Qu;go_wp2;go_ret;exact⟨kY HR.out.symm,Θ _ _⟩
   ·rw[decide_eq_false Qu] at hr;have HR:=qh hr;have q:decide ((s.size:Int)≤16)=ρ:=decide_eq_false (by omega);clear hr Qu;go_wp2;go_ret;exact⟨kY HR.out.symm,Θ _ _⟩
section
open Go.RowKit Go.Maps
abbrev Rg:=Option Κ × Nat × Nat × List D
abbrev VC:=(Int × Int) × Rg × ByteArray × Int
abbrev EC:=(Int × Int) × ByteArray × Int
def vC (v:VC):List ψ:=[J v.1.1,J v.1.2,γ v.2.1.1 v.2.1.2.1 v.2.1.2.2.1,μ v.2.2.1,J v.2.2.2]
def eC (e:EC):List ψ:=[J e.1.1,J e.1.2,μ e.2.1,J e.2.2]
theorem aS (v:VC):(vC v).length=5:=rfl
theorem bM (e:EC):(eC e).length=4:=rfl
theorem nQ (v:VC):∀u∈vC v,u.oneCell'=τ:=by simp[vC,Τ]
theorem nr (e:EC):∀u∈eC e,u.oneCell'=τ:=by simp[eC,Τ]
def dC (d:D):List ψ:=[J d.1,J d.2.1,J d.2.2]
theorem F8 (d:D):(dC d).length=3:=rfl
theorem lN (l:List D):aA l=ah dC l:=by
 induction l with
 |nil=>rfl
 |cons d l ih=>rw[aA,ih];rfl
def RgOk (w:ο) (r:Rg):Prop:=r.2.2.1≤Jap∧bg w w.heap.size 3 r.1 r.2.1 r.2.2.1 (aA r.2.2.2)
structure bz (w:ο) (A:Option Κ) (n c:Nat) (Vs:List VC) (B:Option Κ) (m k:Nat) (Es:List EC):Prop where
 v:bg w w.heap.size 5 A n c (ah vC Vs)
 e:bg w w.heap.size 4 B m k (ah eC Es)
 r:∀x∈Vs,RgOk w x.2.1
theorem bz.below {w w':ο} {A B:Option Κ} {n c m k:Nat} {Vs:List VC} {Es:List EC} (h:bz w A n c Vs B m k Es) (hb:σ w.heap.size w w'):bz w' A n c Vs B m k Es:=
 ⟨h.v.bl hb,h.e.bl hb,fun x hx=>⟨(h.r x hx).1,(h.r x hx).2.bl hb⟩⟩
def eR (n:Int):Bool:=decide (-1099511627776≤n∧n≤1099511627776)
end
theorem dO {P:JaE} {fn:Func} {R:Ending→ο→Prop} {a:Act} {w:ο} {p:Tmp} {t:Υ} (h:fn.results=#[.cell p t]) (g:Nat) {t':Υ} {cs:List ψ} {d:TypeDesc}
 (hp:a.tmps.getD p undef=υ (ζ ⟨g,0,ε⟩)) (hW:Whole w g t' cs) (hu:P.underlying t=ζ d) (hd:d.isRow=τ) (hi:(P.info? t).map (·.size)=ζ cs.length)
 (Qe:a.defers=[]) (hR:R (.returned (φ cs.toArray)) w):bodyPost P fn R .ret a w:=by
 refine JaN (v:=φ cs.toArray) ?_ Qe hR
 have hl:=run_loadVar_mid (P:=P) w g 0 t cs d (fun j v hv=>by
  have:=hW.cell hv
  simpa using this) hu hd hi
 have ob:=hp;rw[Array.getD_eq_getD_getElem?] at ob;simp[results,h,ob,asAddr,Jbl,Jbw,hl]
def fA:Option (Int × Int)→List (Int × Int)→Bool
 |_,[]=>τ
 |o,x::r=>dK x.1 x.2 && (match o with|none=>τ|some y=>decide (jz y.1 y.2 x.1 x.2<0)) && fA (ζ x) r
theorem ZK (v:VC) (w:ο):Ζ η 159 #[φ (vC v).toArray] w fun e w'=>e=.returned (φ #[J v.1.1,J v.1.2])∧σ w.heap.size w w':=by
 obtain⟨⟨i1,i2⟩,⟨rA,rn,rc,rL⟩,lb,at_⟩:=v;show Ζ η 159 #[φ #[J i1,J i2,γ rA rn rc,μ lb,J at_]] w _;go_enter Tryz.func159,Tryz.ntmps159;go_wp2;have hW:=Whole.new_ (w.alloc (δ (#[J i1,J i2,γ rA rn rc,μ lb,J at_]) 59)) 30 [J i1,J i2];simp only[World.size_alloc] at hW;refine dO rfl (w.heap.size+1) rfl hW Tryz.underlying30 rfl (by kernel_rfl) rfl ?_;exact⟨rfl,by first|exact cr _ _ _|exact(cr _ _ _).setCell (by simp) _|exact((cr _ _ _).setCell (by simp) _).setCell (by simp) _⟩
abbrev M8 (k:Nat):Prop:=∀(args:Array ψ) (W:ο),(callFunc k args).run η W=.ok (.enter k args) W
theorem nH {k:Nat} {fn:Func} {c:Code} (hf:η.funcs[k]? =ζ fn) (aaK:(fn.name=="runtime.NumGoroutine")=ρ) (hb:fn.body=ζ c):M8 k:=fun args W=>by
 have h1:fn.name≠"runtime.NumGoroutine":=by simpa using aaK
 simp[callFunc,Jbl,hf,hb,h1]
theorem RgOk.below {w w':ο} {r:Rg} (h:RgOk w r) (hb:σ w.heap.size w w'):RgOk w' r:=⟨h.1,h.2.bl hb⟩
def pj (v:VC):Bool:=decide (v.2.1.2.2.2=aM v.2.1.2.2.2)
section
open Go.RowKit Go.Maps
def su (d:D):Prop:=(Lit.int .i64 d.1).wf=true∧(Lit.int .i64 d.2.1).wf=true∧(Lit.int .i64 d.2.2).wf=true
def kD (d:D):Lit:=.string (keyBytes [.int .i64 d.1,.int .i64 d.2.1,.int .i64 d.2.2])
theorem IW:(match Tryz.prog.underlying 32 with|some (.array _ _)|some (.struct _)=>true|_=>false)=true:=by rw[Tryz.underlying32]
theorem zI:laidOutB Tryz.prog=true:=by kernel_rfl
theorem Lc:WideMaps.KeyLaw Tryz.prog 32:=deep_law_laid zI (m:=3) (by omega) (by show 32<Tryz.prog.types.size;rw[show Tryz.prog.types.size=Tryz.prog.types.size from rfl];decide) (by kernel_rfl) IW
theorem nt:Keyed Tryz.prog 32:=Keyed.of_law Lc
theorem J8 (m:Nat) (d:D) (h:su d):Tryz.prog.keyLits (m+3) 32 (dC d)=some [.int .i64 d.1,.int .i64 d.2.1,.int .i64 d.2.2]:=by
 obtain⟨h1,h2,h3⟩:=h;have c1:Tryz.prog.cellsOf 32=3:=by kernel_rfl
 have c2:Tryz.prog.cellsOf 30=2:=by kernel_rfl
 have c3:Tryz.prog.cellsOf 3=1:=by kernel_rfl
 have i1:∀(n:Nat) (x:Int),(Lit.int .i64 x).wf=true→Tryz.prog.keyLits (n+1) 3 [.int .i64 x]=some [.int .i64 x]:=fun n x hx=>by simp[Program.keyLits,Tryz.underlying3,hx]
 have i2:∀n,Tryz.prog.keyLits (n+2) 30 [.int .i64 d.1,.int .i64 d.2.1]=some [.int .i64 d.1,.int .i64 d.2.1]:=fun n=>by
  unfold Program.keyLits;simp only[Tryz.underlying30,c2];rw[if_pos ⟨rfl,by kernel_rfl⟩];simp[c3,i1,h1,h2]
 unfold Program.keyLits;simp only[Tryz.underlying32,c1];rw[if_pos ⟨rfl,by kernel_rfl⟩];simp[c2,c3,i1,i2,h3,dC]
theorem pt (d:D) (h:su d):keyOf Tryz.prog 32 (.agg (dC d).toArray)=some (kD d):=by
 have hk:Tryz.prog.keyType 32=true:=by kernel_rfl
 have c1:Tryz.prog.cellsOf 32=3:=by kernel_rfl
 have hf:(Value.agg (dC d).toArray).formed Tryz.prog 32=true:=by simp[Value.formed,Tryz.underlying32,c1,dC]
 obtain⟨m,hm⟩:∃m,Tryz.prog.types.size+1=m+3:=⟨Tryz.prog.types.size - 2,by kernel_rfl⟩
 have hl:=J8 m d h;rw[←hm] at hl;unfold keyOf;simp only[Tryz.underlying32,hk,hf,Value.cells,Bool.and_self,if_true];rw[hl];rfl
theorem zR {a b:D} (ha:su a) (hb:su b) (h:kD a=kD b):a=b:=by
 have:=nt.inj (pt a ha) (by rw[h];exact pt b hb)
 simp[dC] at this;obtain⟨a1,a2,a3⟩:=a;obtain⟨b1,b2,b3⟩:=b;simp_all
theorem wx {a:D} (ha:su a):WideAt.IsKeyLit (kD a):=nt.key (pt a ha)
structure FH {H:Type} (Dt:DataW H) (S:List D):Prop where
 tidy:Tidy Dt
 nd:S.Nodup
 wf:∀d∈S,su d
 size:Maps.size Dt=S.length
 has:∀d,su d→Maps.has Dt (kD d)=decide (d∈S)
def oB (d:D) (S:List D):List D:=if d∈S then S else d::S
theorem FH.empty {H:Type}:FH (.map []:DataW H) []:=⟨tidy_empty,List.nodup_nil,by simp,rfl,fun d _=>by simp[Maps.has]⟩
theorem FH.put {H:Type} {Dt:DataW H} {S:List D} (h:FH Dt S) (d:D) (hd:su d) (u:DataW H):FH (Dt.put (kD d) u) (oB d S):=by
 have hm:=h.has d hd
 refine⟨h.tidy.put (wx hd) u,?_,?_,?_,?_⟩
 ·unfold oB;split
  ·exact h.nd
  ·rename_i hn;exact List.nodup_cons.2 ⟨hn,h.nd⟩
 ·intro x hx;unfold oB at hx;split at hx
  ·exact h.wf x hx
  ·rcases List.mem_cons.1 hx with rfl|hx
   ·exact hd
   ·exact h.wf x hx
 ·rw[size_put h.tidy,hm,h.size];unfold oB;split<;>simp_all
 ·intro x hx
  by_cases e:x=d
  ·subst e;rw[has_put_same h.tidy.isMap (wx hd)];unfold oB;split<;>simp_all
  ·rw[has_put_other (fun e'=>e (zR hx hd e')),h.has x hx];unfold oB;split<;>simp_all
end
section
open Go.RowKit Go.Maps
def rY:List D→List D→Bool
 |S,[]=>decide (S.length=0)
 |S,x::r=>if x∈S then rY (S.erase x) r else ρ
def DQ:List EC→List D→List D
 |[],S=>S
 |e::r,S=>DQ r (oB (e.1.1,e.1.2,1) (oB (e.1.1,e.1.2,0) S))
def ao (Vs:List VC):List D:=Vs.flatMap (·.2.1.2.2.2)
theorem zC {w W w1:ο} {b:Nat} (h:σ w.heap.size w W) (hg:W.grownBy w1 (ζ b)) (hb:w.heap.size≤b):σ w.heap.size w w1:=
 ⟨hg.os.trans h.os,hg.tape.trans h.tape,hg.output.trans h.output,Λ h.size hg.size,fun i hi=>(hg.block i (Nat.lt_of_lt_of_le hi h.size) (by intro e;cases e;omega)).trans (h.block i hi)⟩
end
section
open Go.RowKit Go.Maps
theorem eA (v:VC) (r:List VC):ao (v::r)=v.2.1.2.2.2++ao r:=rfl
end
def yE (big b0 b1 b2 b3 b4 b5 b6 b7:Bool):Int:=
 if big then 3 else if !(b0 && b1 && b2 && b3) then 10 else if !(b4 && b5) then 4 else if !(b6 && b7) then 1 else 0
def jZ (Vs:List VC) (Es:List EC):Int:=
 yE (decide (24<Vs.length∨40<Es.length)) (fA ε (Vs.map (·.1))) (fA ε (Es.map (·.1))) (Vs.all pj) (rY (DQ Es []) (ao Vs))
  (Vs.all (fun v=>cQ v.2.2.1)) (Es.all (fun v=>cQ v.2.1)) (Vs.all (fun v=>eR v.2.2.2)) (Es.all (fun v=>eR v.2.2))
theorem bg.of_whole {W:ο} {g:Nat} {t:Υ} {cs:List ψ} {n size:Nat} (h:Whole W g t cs) (hl:cs.length=n*size):bg W W.heap.size size (ζ ⟨g,0,ε⟩) n n cs:=
 ⟨hl,fun e=>(by cases e),Δ _,fun a ha _=>(by obtain rfl:=Μ ha;exact h.lt),fun a ha j u hu=>(by
  obtain rfl:=Μ ha;rw[Ν];simpa using h.cell hu)⟩
theorem bg.no (W:ο) (B size:Nat):bg W B size ε 0 0 []:=⟨by simp,fun _=>⟨rfl,rfl⟩,Δ _,fun a h=>(by cases h),fun a h=>(by cases h)⟩
theorem lP:(η.info? 59).map (fun i=>(i.zero,i.size,i.bytes))=ζ (ζ (φ #[J 0,J 0,γ ε 0 0,μ {data:=#[]},J 0]),5,64):=by kernel_rfl
theorem pK:(η.info? 67).map (fun i=>(i.zero,i.size,i.bytes))=ζ (ζ (φ #[J 0,J 0,μ {data:=#[]},J 0]),4,40):=by kernel_rfl
theorem aW {o:Option TypeInfo} {z:ψ} {s b:Nat} (h:o.map (fun i=>(i.zero,i.size,i.bytes))=ζ (ζ z,s,b)):∃i,o=ζ i∧i.zero=ζ z∧i.size=s∧i.bytes=b:=by
 cases o with
 |none=>simp at h
 |some i=>simp at h;exact⟨i,rfl,h⟩
theorem Ow.low_ne {w W:ο} {B size n g:Nat} {e:Υ} {v:ψ} {xs:List ψ} (h:Ow w B e size v n xs W) (hg:g<B):ζ g≠v.ownBlock:=fun e=>by
 have:=(h.own.lt g e.symm).1
 omega
theorem Ow.set_far {w W:ο} {B size n g i:Nat} {e:Υ} {v:ψ} {xs:List ψ} (h:Ow w B e size v n xs W) (bj:ζ g≠v.ownBlock) (hg:w.heap.size≤g) (u:ψ):Ow w B e size v n xs (W.setCell ⟨g,i,ε⟩ u):=
 ⟨h.own.kept (row:=ζ g) ⟨rfl,rfl,rfl,by simp[JbB],fun k _ hk=>Below.heap_setCell _ _ _ _ (by
  rintro rfl;exact hk rfl)⟩ (by first|exact bj|exact bj.symm|exact .inr bj|exact .inr bj.symm),h.below.setCell hg u,h.lo,by simpa [JbB] using h.hi⟩
theorem Whole.set_far' {W:ο} {g h i:Nat} {t:Υ} {cs:List ψ} (hw:Whole W g t cs) (bj:g≠h) (u:ψ):Whole (W.setCell ⟨h,i,ε⟩ u) g t cs:=
 hw.at_ (Below.heap_setCell _ _ _ _ bj)
theorem bg.far_ {W:ο} {B size n c g i:Nat} {A:Option Κ} {xs:List ψ} (h:bg W B size A n c xs) (bj:∀a,A=ζ a→0<n→a.block≠g) (u:ψ):bg (W.setCell ⟨g,i,ε⟩ u) B size A n c xs:=
 ⟨h.len,h.none_,h.le,h.low,fun a ha j x hx=>(World.cell?_of_block (Below.heap_setCell _ _ _ _ (by
  rw[en]
  first|exact bj a ha (h.pos hx)|exact(bj a ha (h.pos hx)).symm))).trans (h.cell a ha j x hx)⟩
theorem ju:(η.info? 32).map (fun i=>(i.zero,i.size,i.bytes))=ζ (ζ (φ #[J 0,J 0,J 0]),3,24):=by kernel_rfl
theorem PN (A:Option Κ) (n c:Nat) (xs:List ψ) (w:ο) (h:bg w w.heap.size 5 A n c xs) (h1:∀u∈xs,u.oneCell'=τ) (hn:n≤1000000):
 Ζ η 104 #[γ A n c] w fun e w'=>∃A' c',e=.returned (γ A' n c')∧Ow w w.heap.size 59 5 (γ A' n c') n xs w':=by
 obtain⟨i0,hi,qJ,ly,kK⟩:=aW lP;cases A with
 |none=>
  obtain⟨rfl,rfl⟩:=h.none_ rfl;have kE:xs=[]:=JaB (by simpa using h.len);subst kE;have kE:∀w',(binOp .eql 22 (γ ε 0 0) (γ ε 0 0)).run η w'=.ok (Β τ) w':=fun w'=>JbH w' _ _ _ _ _ _ _ Tryz.underlying22
  clear h h1;go_enter Tryz.func104,Tryz.ntmps104;go_wp2;go_ret;exact⟨_,_,rfl,Ow.nil_ (Θ _ _) (Δ _) (Δ _)⟩
 |some a=>
  have H:=qh (h.al (δ #[] 59));have HO:Hid (Ow w w.heap.size 59 5 (γ (ζ ⟨w.heap.size,0,ε⟩) 0 0) 0 [] (w.alloc (δ #[] 59))):=qh (Ow.new_ (cs:=#[]) (Θ _ _) (Δ _) (Δ _) (Jas _) rfl);have kE:∀w',(binOp .eql 22 (γ (ζ a) n c) (γ ε 0 0)).run η w'=.ok (Β ρ) w':=fun w'=>JbH w' _ _ _ _ _ _ _ Tryz.underlying22
  clear h;go_enter Tryz.func104,Tryz.ntmps104
  go_wp2_with (first
   |(at_builtin
     refine cC rfl (.tmp 5) (.tmp 6) _ rfl _ 59 i0 _ 5 64 Tryz.underlying22 hi qJ ly kK rfl (by decide) _ _ _ rfl (by exact HO.out) _ (ζ a) n c xs rfl (by exact H.out) h1 (by unfold Jap;omega) (by omega) ?_;intro v1 w1 fh cP tF;rw[JaI,JaF] at fh;obtain⟨Aq,cq,rfl,-⟩:=fh.rds;have nb:=qh fh;clear fh cP tF))
  go_ret;exact⟨_,_,rfl,nb.out⟩
theorem Rr (A:Option Κ) (n c:Nat) (xs:List ψ) (w:ο) (h:bg w w.heap.size 4 A n c xs) (h1:∀u∈xs,u.oneCell'=τ) (hn:n≤1000000):
 Ζ η 105 #[γ A n c] w fun e w'=>∃A' c',e=.returned (γ A' n c')∧Ow w w.heap.size 67 4 (γ A' n c') n xs w':=by
 obtain⟨i0,hi,qJ,ly,kK⟩:=aW pK;cases A with
 |none=>
  obtain⟨rfl,rfl⟩:=h.none_ rfl;have kE:xs=[]:=JaB (by simpa using h.len);subst kE;have kE:∀w',(binOp .eql 23 (γ ε 0 0) (γ ε 0 0)).run η w'=.ok (Β τ) w':=fun w'=>JbH w' _ _ _ _ _ _ _ Tryz.underlying23
  clear h h1;go_enter Tryz.func105,Tryz.ntmps105;go_wp2;go_ret;exact⟨_,_,rfl,Ow.nil_ (Θ _ _) (Δ _) (Δ _)⟩
 |some a=>
  have H:=qh (h.al (δ #[] 67));have HO:Hid (Ow w w.heap.size 67 4 (γ (ζ ⟨w.heap.size,0,ε⟩) 0 0) 0 [] (w.alloc (δ #[] 67))):=qh (Ow.new_ (cs:=#[]) (Θ _ _) (Δ _) (Δ _) (Jas _) rfl);have kE:∀w',(binOp .eql 23 (γ (ζ a) n c) (γ ε 0 0)).run η w'=.ok (Β ρ) w':=fun w'=>JbH w' _ _ _ _ _ _ _ Tryz.underlying23
  clear h;go_enter Tryz.func105,Tryz.ntmps105
  go_wp2_with (first
   |(at_builtin
     refine cC rfl (.tmp 5) (.tmp 6) _ rfl _ 67 i0 _ 4 40 Tryz.underlying23 hi qJ ly kK rfl (by decide) _ _ _ rfl (by exact HO.out) _ (ζ a) n c xs rfl (by exact H.out) h1 (by unfold Jap;omega) (by omega) ?_;intro v1 w1 fh cP tF;rw[JaI,JaF] at fh;obtain⟨Aq,cq,rfl,-⟩:=fh.rds;have nb:=qh fh;clear fh cP tF))
  go_ret;exact⟨_,_,rfl,nb.out⟩
theorem QI (A:Option Κ) (n c:Nat) (xs:List ψ) (w:ο) (h:bg w w.heap.size 3 A n c xs) (h1:∀u∈xs,u.oneCell'=τ) (hn:n≤1000000):
 Ζ η 132 #[γ A n c] w fun e w'=>∃A' c',e=.returned (γ A' n c')∧Ow w w.heap.size 32 3 (γ A' n c') n xs w':=by
 obtain⟨i0,hi,qJ,ly,kK⟩:=aW ju;cases A with
 |none=>
  obtain⟨rfl,rfl⟩:=h.none_ rfl;have kE:xs=[]:=JaB (by simpa using h.len);subst kE;have kE:∀w',(binOp .eql 57 (γ ε 0 0) (γ ε 0 0)).run η w'=.ok (Β τ) w':=fun w'=>JbH w' _ _ _ _ _ _ _ Tryz.underlying57
  clear h h1;go_enter Tryz.func132,Tryz.ntmps132;go_wp2;go_ret;exact⟨_,_,rfl,Ow.nil_ (Θ _ _) (Δ _) (Δ _)⟩
 |some a=>
  have H:=qh (h.al (δ #[] 32));have HO:Hid (Ow w w.heap.size 32 3 (γ (ζ ⟨w.heap.size,0,ε⟩) 0 0) 0 [] (w.alloc (δ #[] 32))):=qh (Ow.new_ (cs:=#[]) (Θ _ _) (Δ _) (Δ _) (Jas _) rfl);have kE:∀w',(binOp .eql 57 (γ (ζ a) n c) (γ ε 0 0)).run η w'=.ok (Β ρ) w':=fun w'=>JbH w' _ _ _ _ _ _ _ Tryz.underlying57
  clear h;go_enter Tryz.func132,Tryz.ntmps132
  go_wp2_with (first
   |(at_builtin
     refine cC rfl (.tmp 5) (.tmp 6) _ rfl _ 32 i0 _ 3 24 Tryz.underlying57 hi qJ ly kK rfl (by decide) _ _ _ rfl (by exact HO.out) _ (ζ a) n c xs rfl (by exact H.out) h1 (by unfold Jap;omega) (by omega) ?_;intro v1 w1 fh cP tF;rw[JaI,JaF] at fh;obtain⟨Aq,cq,rfl,-⟩:=fh.rds;have nb:=qh fh;clear fh cP tF))
  go_ret;exact⟨_,_,rfl,nb.out⟩
theorem sD {w:ο} {B B' n:Nat} {e:Υ} {size:Nat} {v:ψ} {xs:List ψ} (h:w.ownsRow B e size v n xs) (hB:B'≤B):w.ownsRow B' e size v n xs:=by
 refine⟨h.1,?_⟩
 rcases h.2 with h|⟨g,cap,cur,h1,h2,h3⟩
 ·exact .inl h
 ·exact .inr ⟨g,cap,cur,h1,Λ hB h2,h3⟩
theorem DH (l:List D):∀u∈aA l,u.oneCell'=τ:=by
 rw[lN];exact p7 dC (by simp[dC,Τ]) l
theorem Nq (v:VC) (w:ο) (h:RgOk w v.2.1) (hn:v.2.1.2.1≤1000000):
 Ζ η 106 #[φ (vC v).toArray] w fun e w'=>∃A' c',e=.returned (φ (vC (v.1,(A',v.2.1.2.1,c',v.2.1.2.2.2),v.2.2)).toArray)∧Ow w w.heap.size 32 3 (γ A' v.2.1.2.1 c') v.2.1.2.1 (aA v.2.1.2.2.2) w':=by
 obtain⟨⟨i1,i2⟩,⟨rA,rn,rc,rL⟩,lb,at_⟩:=v;have hr:bg w w.heap.size 3 rA rn rc (aA rL):=h.2;replace hn:rn≤1000000:=hn;show Ζ η 106 #[φ #[J i1,J i2,γ rA rn rc,μ lb,J at_]] w fun e w'=>∃A' c',e=.returned (φ #[J i1,J i2,γ A' rn c',μ lb,J at_])∧Ow w w.heap.size 32 3 (γ A' rn c') rn (aA rL) w'
 have hz:η.info? 59=η.info? 59:=rfl;have HR:=qh ((hr.al (δ #[J i1,J i2,γ rA rn rc,μ lb,J at_] 59)).al (δ #[J 0,J 0,γ ε 0 0,μ {data:=#[]},J 0] 59));have HW:=qh ((Whole.new_ w 59 [J i1,J i2,γ rA rn rc,μ lb,J at_]).alloc (δ #[J 0,J 0,γ ε 0 0,μ {data:=#[]},J 0] 59));have HY:Hid (Whole _ (w.heap.size+1) 59 [J 0,J 0,γ ε 0 0,μ {data:=#[]},J 0]):=qh (Whole.new2 (w:=w.alloc (δ #[J i1,J i2,γ rA rn rc,μ lb,J at_] 59)) (by simp));have HB:=qh (cr w (δ #[J i1,J i2,γ rA rn rc,μ lb,J at_] 59) (δ #[J 0,J 0,γ ε 0 0,μ {data:=#[]},J 0] 59));clear h hr hz;go_enter Tryz.func106,Tryz.ntmps106;go_wp2_with fail
 refine(QI rA rn rc (aA rL) _ HR.out (DH rL) hn).mono ?_
 rintro e w3 ⟨A',c',rfl,ho⟩;have fU:w.heap.size+1<((w.alloc (δ #[J i1,J i2,γ rA rn rc,μ lb,J at_] 59)).alloc (δ #[J 0,J 0,γ ε 0 0,μ {data:=#[]},J 0] 59)).heap.size:=by simp
 have FZ:=ho.low_ne (g:=w.heap.size) (by omega);have ni:=ho.low_ne (g:=w.heap.size+1) fU;have hx:=HW.out.below ho.below;have hy:=HY.out.below ho.below;have hO:Ow w w.heap.size 32 3 (γ A' rn c') rn (aA rL) w3:=⟨sD ho.own (by omega),HB.out.trans (ho.below.mono HB.out.size),Δ _,Λ (by omega) ho.hi⟩;have oH:=((((((hO.set_far (i:=2) FZ (Δ _) (γ A' rn c')).set_far (i:=0) ni (by omega) (J i1)).set_far (i:=1) ni (by omega) (J i2)).set_far (i:=2) ni (by omega) (γ A' rn c')).set_far (i:=3) ni (by omega) (μ lb)).set_far (i:=4) ni (by omega) (J at_));have Fy:=(((((hy.set_far' (i:=2) (h:=w.heap.size) (by omega) (γ A' rn c')).set_ 0 (J i1)).set_ 1 (J i2)).set_ 2 (γ A' rn c')).set_ 3 (μ lb)).set_ 4 (J at_);have Bh:=qh oH;have Gx:=qh Fy;have x0:=hx.cell (i:=0) rfl;have x1:=hx.cell (i:=1) rfl;have x2:=hx.cell (i:=2) rfl;have x3:=hx.cell (i:=3) rfl;have x4:=hx.cell (i:=4) rfl;have f2:=hx.free 2;have y0:=hy.cell (i:=0) rfl;have y1:=hy.cell (i:=1) rfl;have y2:=hy.cell (i:=2) rfl;have y3:=hy.cell (i:=3) rfl;have y4:=hy.cell (i:=4) rfl;have e0:=hy.free 0;have e1:=hy.free 1;have e2:=hy.free 2;have e3:=hy.free 3;have e4:=hy.free 4;clear ho hx hy hO oH Fy FZ ni fU HW HY HB HR;go_wp2;exact dO rfl (w.heap.size+1) rfl Gx.out Tryz.underlying59 rfl (by kernel_rfl) rfl ⟨A',c',rfl,Bh.out⟩
theorem No:(η.info? 30).map (fun i=>(i.zero,i.size,i.bytes))=ζ (ζ (φ #[J 0,J 0]),2,16):=by kernel_rfl
def lS (x:Int × Int):List ψ:=[J x.1,J x.2]
theorem pL (x:Int × Int):(lS x).length=2:=rfl
theorem xw {α:Type} (g:α→Int × Int) (P:List (Int × Int)) (L:List α) (j:Nat) (x:α) (h:L[j]? =ζ x):ah lS (P++(L.take j).map g)++lS (g x)=ah lS (P++(L.take (j+1)).map g):=by
 have:(L.take (j+1)).map g=(L.take j).map g++[g x]:=by rw[List.take_add_one,h];simp
 have e:ah lS [g x]=lS (g x):=by simp[ah]
 rw[this,←Jay,bY lS (P++(L.take j).map g) [g x],e]
theorem bS {P:JaE} {fn:Func} {R:Ending→ο→Prop} {a:Act} {w:ο} {p u:Tmp} {t:Υ} (h:fn.results=#[.cell p t,.tmp u]) (g:Nat) {t':Υ} {cs:List ψ} {d:TypeDesc} {v:ψ}
 (hp:a.tmps.getD p undef=υ (ζ ⟨g,0,ε⟩)) (hv:a.tmps.getD u undef=v) (hW:Whole w g t' cs) (hu:P.underlying t=ζ d) (hd:d.isRow=τ) (hi:(P.info? t).map (·.size)=ζ cs.length)
 (Qe:a.defers=[]) (hR:R (.returned (Ξ #[φ cs.toArray,v])) w):bodyPost P fn R .ret a w:=by
 refine JaN (v:=Ξ #[φ cs.toArray,v]) ?_ Qe hR
 have hl:=run_loadVar_mid (P:=P) w g 0 t cs d (fun j v hv=>by
  have:=hW.cell hv
  simpa using this) hu hd hi
 rw[results_cell_tmp h,hp,hv];simp[asAddr,Jbw,hl]
def lE (Vs:List VC) (x:D):(Int × Int) × Bool:=match Vs.find? (fun v=>decide (x∈v.2.1.2.2.2)) with|some v=>(v.1,τ)|none=>((0,0),ρ)
theorem Ak (v:VC) (r:List VC) (x:D) (h:x∈v.2.1.2.2.2):lE (v::r) x=(v.1,τ):=by simp[lE,h]
theorem EI (v:VC) (r:List VC) (x:D) (h:¬x∈v.2.1.2.2.2):lE (v::r) x=lE r x:=by simp[lE,h]
theorem K3 (A:Option Κ) (n c:Nat) (Vs:List VC) (B:Option Κ) (m k:Nat) (Es:List EC) (x1 x2 x3:Int) (w:ο) (h:bz w A n c Vs B m k Es) (hn:n≤1000000) (hr:∀y∈Vs,y.2.1.2.1≤1000000):
 Ζ η 151 #[φ #[γ A n c,γ B m k],φ #[J x1,J x2,J x3]] w fun e w'=>
  e=.returned (Ξ #[φ #[J (lE Vs (x1,x2,x3)).1.1,J (lE Vs (x1,x2,x3)).1.2],Β (lE Vs (x1,x2,x3)).2])∧σ w.heap.size w w':=by
 have HV:=qh h.v;have sw:=qh h.r;have AL:=qh hr;have oG:=qh (h.v.rlen aS (by decide));obtain⟨⟨⟨r1,r2⟩,r3⟩,gr⟩:∃z,lE Vs (x1,x2,x3)=z:=⟨_,rfl⟩
 rw[gr];have HG:=qh gr;clear h hr gr;go_enter Tryz.func151,Tryz.ntmps151;go_wp2;have jq:Whole _ (w.heap.size+1) 32 [J x1,J x2,J x3]:=(Whole.new2 (w:=w.alloc (δ #[γ A n c,γ B m k] 25)) (by simp)).alloc (δ #[J 0,J 0] 30);have uU:Whole _ (w.heap.size+1+1) 30 [J 0,J 0]:=Whole.new2 (w:=(w.alloc (δ #[γ A n c,γ B m k] 25)).alloc (δ #[J x1,J x2,J x3] 32)) (by simp);have oI:=aI (aI (az w (δ #[γ A n c,γ B m k] 25)) (δ #[J x1,J x2,J x3] 32)) (δ #[J 0,J 0] 30);obtain⟨W0,bO⟩:=aB (((w.alloc (δ #[γ A n c,γ B m k] 25)).alloc (δ #[J x1,J x2,J x3] 32)).alloc (δ #[J 0,J 0] 30));have bw:Hid (σ w.heap.size w W0):=qh (by rw[←bO];exact oI);have TJ:Whole W0 (w.heap.size+1) 32 [J x1,J x2,J x3]:=by rw[←bO];exact jq
 have WN:Whole W0 (w.heap.size+1+1) 30 [J 0,J 0]:=by rw[←bO];exact uU
 obtain⟨b2,jc⟩:=aB (w.heap.size+1+1);obtain⟨b1,dE⟩:=aB (w.heap.size+1);obtain⟨b0,bp⟩:=aB w.heap.size;rw[dE] at TJ;rw[jc] at WN;have aL:=qh TJ;have aZ:=qh WN;have Hl2:Hid (w.heap.size≤b2):=qh (by omega);rw[bO,jc,dE,bp];clear jq uU oI TJ WN bO jc dE bp;go_loopw [11] (fun si wr=>∃j:Nat,j≤n∧si=J j∧Hid (σ w.heap.size w wr)∧Hid (Whole wr b1 32 [J x1,J x2,J x3])∧Hid (Whole wr b2 30 [J 0,J 0])∧Hid (lE (Vs.drop j) (x1,x2,x3)=((r1,r2),r3))) (fun si _=>n - (intOf si).toNat)
 case atStart=>exact⟨0,by omega,rfl,bw,aL,aZ,HG⟩
 case round=>
  clear bw aL aZ HG;obtain⟨j,hj,rfl,HB,aL,aZ,HG⟩:=hrel;obtain⟨wo,cS⟩:=aB wr;rw[cS] at HB aL aZ ⊢;clear cS;have f0:=aZ.out.free 0;have f1:=aZ.out.free 1;have k0:=aZ.out.cell (i:=0) rfl;have k1:=aZ.out.cell (i:=1) rfl
  by_cases nT:j<n
  ·clear f0 f1 k0 k1;obtain⟨y,hx⟩:∃y,Vs[j]? =ζ y:=⟨_,θ (by have:=oG.out;omega)⟩
   have kd:Vs.drop j=y::Vs.drop (j+1):=by
    rw[Χ (ν.1 hx).1,(ν.1 hx).2]
   have uH:=sw.out y (ω hx);have kc:=AL.out y (ω hx);have dQ:=HG.out;rw[kd] at dQ;have xH:=qh dQ;obtain⟨bb,off,rfl,aY,a8⟩:=HV.out.place aS (by decide) (by omega);have bC:=HB.out;have q0:=a8 j _ hx 0 _ rfl;have q1:=a8 j _ hx 1 _ rfl;have q2:=a8 j _ hx 2 _ rfl;have q3:=a8 j _ hx 3 _ rfl;have q4:=a8 j _ hx 4 _ rfl;simp only[Ν,Jac] at q0 q1 q2 q3 q4;have l0:=(bC.cell (p:=⟨bb,off+j*5,ε⟩) aY).trans q0;have l1:=(bC.cell (p:=⟨bb,off+j*5+1,ε⟩) aY).trans q1;have l2:=(bC.cell (p:=⟨bb,off+j*5+2,ε⟩) aY).trans q2;have l3:=(bC.cell (p:=⟨bb,off+j*5+3,ε⟩) aY).trans q3;have l4:=(bC.cell (p:=⟨bb,off+j*5+4,ε⟩) aY).trans q4;obtain⟨⟨i1,i2⟩,⟨rA,rn,rc,rL⟩,lb,at_⟩:=y;have hR:bg w w.heap.size 3 rA rn rc (aA rL):=uH.2;replace kc:rn≤1000000:=kc;have lX:=qh (aI HB.out (δ #[J i1,J i2,γ rA rn rc,μ lb,J at_] 59));have HI:=qh (il rA rn rc rL (x1,x2,x3) _ (hR.bl lX.out) (by omega));have z0:=(aL.out.alloc (δ #[J i1,J i2,γ rA rn rc,μ lb,J at_] 59)).cell (i:=0) rfl;have z1:=(aL.out.alloc (δ #[J i1,J i2,γ rA rn rc,μ lb,J at_] 59)).cell (i:=1) rfl;have z2:=(aL.out.alloc (δ #[J i1,J i2,γ rA rn rc,μ lb,J at_] 59)).cell (i:=2) rfl;clear hx kd dQ a8 bC q0 q1 q2 q3 q4 aY HG uH hR;obtain⟨ix,N1⟩:=aB (fC rL (x1,x2,x3));rw[N1] at HI
   have ZZ:=qh N1;clear N1;go_wp2_with fail
   refine HI.out.mono ?_;rintro e w3 ⟨rfl,hb⟩;have bB:=qh (ag lX.out hb);have eD:=qh ((aL.out.alloc (δ #[J i1,J i2,γ rA rn rc,μ lb,J at_] 59)).below hb);have cE:=qh ((aZ.out.alloc (δ #[J i1,J i2,γ rA rn rc,μ lb,J at_] 59)).below hb);have hy:=(Whole.new_ wo 59 [J i1,J i2,γ rA rn rc,μ lb,J at_]).below hb;have y0:=hy.cell (i:=0) rfl;have y1:=hy.cell (i:=1) rfl;clear hb z0 z1 z2 l0 l1 l2 l3 l4 hy HB aL aZ HI
   by_cases eE:(x1,x2,x3)∈rL
   ·have e1:fC rL (x1,x2,x3)=(rL.idxOf (x1,x2,x3):Int):=by rw[fC,if_pos eE]
    have h0:0≤ix:=by rw[←ZZ.out,e1];omega
    have hG:=xH.out;rw[Ak _ _ _ eE] at hG;simp only[Jba] at hG;obtain⟨⟨rfl,rfl⟩,rfl⟩:=hG;have f0:=cE.out.free 0;have f1:=cE.out.free 1;have k0:=cE.out.cell (i:=0) rfl;have k1:=cE.out.cell (i:=1) rfl;have HY:=qh ((cE.out.set_ 0 (J i1)).set_ 1 (J i2));have rQ:=qh ((bB.out.setCell (p:=⟨b2,0,ε⟩) Hl2.out (J i1)).setCell (p:=⟨b2,1,ε⟩) Hl2.out (J i2));clear cE xH;go_wp2;exact bS rfl b2 rfl rfl HY.out Tryz.underlying30 rfl (by kernel_rfl) rfl ⟨rfl,rQ.out⟩
   ·have h0:¬0≤ix:=by rw[←ZZ.out,show fC rL (x1,x2,x3)= -1 by rw[fC,if_neg eE]];omega
    have hG:=xH.out;rw[EI _ _ _ eE] at hG;have Bx:=qh hG;clear hG xH y0 y1;go_wp2;go_roundw
    case rel=>exact⟨j+1,by omega,by go_num,bB,eD,cE,Bx⟩
    case measure=>simp[intOf];omega
  ·obtain rfl:n=j:=by omega
   have hG:=HG.out;rw[Jav (by have:=oG.out;omega)] at hG;replace hG:(((0:Int),(0:Int)),ρ)=((r1,r2),r3):=hG;simp only[Jba] at hG;obtain⟨⟨rfl,rfl⟩,rfl⟩:=hG;have HY:=qh ((aZ.out.set_ 0 (J 0)).set_ 1 (J 0));have rQ:=qh ((HB.out.setCell (p:=⟨b2,0,ε⟩) Hl2.out (J 0)).setCell (p:=⟨b2,1,ε⟩) Hl2.out (J 0));clear HG aZ;go_wp2;exact bS rfl b2 rfl rfl HY.out Tryz.underlying30 rfl (by kernel_rfl) rfl ⟨rfl,rQ.out⟩
def KR {α:Type} (nm:α→Int × Int) (z:α) (L:List α) (x:Int × Int):α × Bool:=match L.find? (fun v=>decide (nm v=x)) with|some v=>(v,τ)|none=>(z,ρ)
theorem sE {α:Type} (nm:α→Int × Int) (z v:α) (r:List α) (x:Int × Int) (h:nm v=x):KR nm z (v::r) x=(v,τ):=by simp[KR,h]
theorem wP {α:Type} (nm:α→Int × Int) (z v:α) (r:List α) (x:Int × Int) (h:¬nm v=x):KR nm z (v::r) x=KR nm z r x:=by simp[KR,h]
def zV:VC:=((0,0),(ε,0,0,[]),⟨#[]⟩,0)
def zE:EC:=((0,0),⟨#[]⟩,0)
def eP (L:List VC) (x:Int × Int):=KR (fun v:VC=>v.1) zV L x
def wu (L:List EC) (x:Int × Int):=KR (fun v:EC=>v.1) zE L x
theorem II {α:Type} (nm:α→Int × Int) (z:α) (L:List α) (x:Int × Int):(KR nm z L x).1∈L∨KR nm z L x=(z,ρ):=by
 unfold KR;split
 ·rename_i v h;exact .inl (List.mem_of_find?_eq_some h)
 ·exact .inr rfl
theorem Y0 (A:Option Κ) (n c:Nat) (L:List VC) (x1 x2:Int) (w:ο) (h:bg w w.heap.size 5 A n c (ah vC L)) (hn:n≤1000000):
 Ζ η 158 #[γ A n c,.func (.func 159) #[] #[],φ #[J x1,J x2]] w fun e w'=>e=.returned (Ξ #[φ (vC (eP L (x1,x2)).1).toArray,Β (eP L (x1,x2)).2])∧σ w.heap.size w w':=by
 have H:=qh h;have Hl:=qh (h.rlen aS (by decide));obtain⟨⟨r,ok⟩,gr⟩:∃z,eP L (x1,x2)=z:=⟨_,rfl⟩
 rw[gr];have HG:=qh gr;clear h gr;go_enter Tryz.func158,Tryz.ntmps158;go_wp2;obtain⟨W0,b0,b1,bO,bp,dE,aQ,aL,bw,mQ,lZ,oa,uD,iP,uW⟩:=wT w 30 [J x1,J x2] 59 [J 0,J 0,γ ε 0 0,μ {data:=#[]},J 0];rw[bO,dE,bp];clear bO bp dE;go_loopw [13] (fun si wr=>∃j:Nat,j≤n∧si=J j∧Hid (σ w.heap.size w wr)∧Hid (Whole wr b0 30 [J x1,J x2])∧Hid (Whole wr b1 59 [J 0,J 0,γ ε 0 0,μ {data:=#[]},J 0])∧Hid (eP (L.drop j) (x1,x2)=(r,ok))) (fun si _=>n - (intOf si).toNat)
 case atStart=>exact⟨0,by omega,rfl,bw,aQ,aL,HG⟩
 case round=>
  clear bw aQ aL HG;obtain⟨j,hj,rfl,HB,aQ,aL,HG⟩:=hrel;obtain⟨wo,cS⟩:=aB wr;rw[cS] at HB aQ aL ⊢;clear cS
  by_cases nT:j<n
  ·obtain⟨x,hx⟩:∃x,L[j]? =ζ x:=⟨_,θ (by have:=Hl.out;omega)⟩
   have kd:L.drop j=x::L.drop (j+1):=by
    rw[Χ (ν.1 hx).1,(ν.1 hx).2]
   have iZ:=HG.out;rw[kd] at iZ;have dQ:=qh iZ;obtain⟨bb,off,rfl,aY,a8⟩:=H.out.place aS (by decide) (by omega);have bC:=HB.out;have q0:=a8 j _ hx 0 _ rfl;have q1:=a8 j _ hx 1 _ rfl;have q2:=a8 j _ hx 2 _ rfl;have q3:=a8 j _ hx 3 _ rfl;have q4:=a8 j _ hx 4 _ rfl;simp only[Ν,Jac] at q0 q1 q2 q3 q4;have l0:=(bC.cell (p:=⟨bb,off+j*5,ε⟩) aY).trans q0;have l1:=(bC.cell (p:=⟨bb,off+j*5+1,ε⟩) aY).trans q1;have l2:=(bC.cell (p:=⟨bb,off+j*5+2,ε⟩) aY).trans q2;have l3:=(bC.cell (p:=⟨bb,off+j*5+3,ε⟩) aY).trans q3;have l4:=(bC.cell (p:=⟨bb,off+j*5+4,ε⟩) aY).trans q4;clear bC q0 q1 q2 q3 q4;have Fu:=fun W=>ZK x W
   obtain⟨⟨i1,i2⟩,⟨rA,rn,rc,rL⟩,lb,at_⟩:=x;have HNm:Hid (∀W,Ζ η 159 #[φ #[J i1,J i2,γ rA rn rc,μ lb,J at_]] W fun e w'=>e=.returned (φ #[J i1,J i2])∧σ W.heap.size W w'):=qh Fu;clear hx kd iZ a8 aY HG Fu;go_upto_region 4 with fail
   have xK:=qh (Whole.new_ wo 59 [J i1,J i2,γ rA rn rc,μ lb,J at_]);have eF:=qh (aQ.out.alloc (δ #[J i1,J i2,γ rA rn rc,μ lb,J at_] 59));have cK:=qh (aL.out.alloc (δ #[J i1,J i2,γ rA rn rc,μ lb,J at_] 59));have bE:=qh (aI HB.out (δ #[J i1,J i2,γ rA rn rc,μ lb,J at_] 59));obtain⟨W1,aV⟩:=aB (wo.alloc (δ #[J i1,J i2,γ rA rn rc,μ lb,J at_] 59));obtain⟨g9,gg9⟩:=aB wo.heap.size;replace xK:Hid (Whole W1 g9 59 [J i1,J i2,γ rA rn rc,μ lb,J at_]):=qh (by rw[←aV,←gg9];exact xK.out);replace eF:Hid (Whole W1 b0 30 [J x1,J x2]):=qh (by rw[←aV];exact eF.out);replace cK:Hid (Whole W1 b1 59 [J 0,J 0,γ ε 0 0,μ {data:=#[]},J 0]):=qh (by rw[←aV];exact cK.out);replace bE:Hid (σ w.heap.size w W1):=qh (by rw[←aV];exact bE.out);rw[aV,gg9];clear aV gg9 HB aQ aL l0 l1 l2 l3 l4;have fL:=cm (i:=0) eF.out rfl;have ld1:=cm (i:=1) eF.out rfl;have heq:=fun W=>Gw i1 i2 x1 x2 W
   obtain⟨bq,yb⟩:=aB ((i1==x1 && i2==x2));rw[yb] at heq;have Lg:=qh yb;clear yb;refine ay (aO) (by kernel_rfl) ?_;refine aa 0 ?_;refine cV 1 (hy:=ib (by rfl) 59 (.tmp 9) rfl g9 rfl 59 [J i1,J i2,γ rA rn rc,μ lb,J at_] _ (fun w' h=>h.whole xK.out.dr (fun h=>h)) Tryz.underlying59 rfl (by kernel_rfl)) (h:=?_);refine cV 2 (hy:=by apply bP;rfl;rotate_left;intro w' aC;exact HNm.out w';intro w';go_simp) (h:=?_);refine aa 3 ?_;refine aa 4 ?_;refine aF (by kernel_rfl) ?_ _;intro W3 du;have bB:=qh (ag (aN bE.out) du);have j6:=qh (eF.out.dr.bl du);have eD:=qh (cK.out.dr.bl du);have nK:=qh (xK.out.dr.bl du);clear du fL ld1 bE eF cK xK heq;cases bq with
   |true=>
    have hq:=Lg.out;rw[Bool.and_eq_true,beq_iff_eq,beq_iff_eq] at hq;have hg:=dQ.out;rw[eP,sE _ _ _ _ _ (by rw[hq.1,hq.2])] at hg;injection hg with xL iZ
    subst xL iZ;have f0:=eD.out.free 0;have y0:=nK.out.cell (i:=0) rfl;have k0:=eD.out.cell (i:=0) rfl;have f1:=eD.out.free 1;have y1:=nK.out.cell (i:=1) rfl;have k1:=eD.out.cell (i:=1) rfl;have f2:=eD.out.free 2;have y2:=nK.out.cell (i:=2) rfl;have k2:=eD.out.cell (i:=2) rfl;have f3:=eD.out.free 3;have y3:=nK.out.cell (i:=3) rfl;have k3:=eD.out.cell (i:=3) rfl;have f4:=eD.out.free 4;have y4:=nK.out.cell (i:=4) rfl;have k4:=eD.out.cell (i:=4) rfl;have HY:=qh (((((eD.out.set_ 0 (J i1)).set_ 1 (J i2)).set_ 2 (γ rA rn rc)).set_ 3 (μ lb)).set_ 4 (J at_));have rQ:=qh (((((bB.out.setCell (p:=⟨b1,0,ε⟩) iP.out (J i1)).setCell (p:=⟨b1,1,ε⟩) iP.out (J i2)).setCell (p:=⟨b1,2,ε⟩) iP.out (γ rA rn rc)).setCell (p:=⟨b1,3,ε⟩) iP.out (μ lb)).setCell (p:=⟨b1,4,ε⟩) iP.out (J at_));clear eD dQ bB hq;go_wp2;exact bS rfl b1 rfl rfl HY.out Tryz.underlying59 rfl (by kernel_rfl) rfl ⟨rfl,rQ.out⟩
   |false=>
    have hg:=dQ.out
    rw[eP,wP _ _ _ _ _ (fun e=>by
     have e1:i1=x1:=congrArg Prod.fst e;have e2:i2=x2:=congrArg Prod.snd e
     have:=Lg.out
     rw[e1,e2] at this;simp at this)] at hg
    have Bx:=qh hg;clear hg dQ nK;go_wp2;go_roundw
    case rel=>exact⟨j+1,by omega,by go_num,bB,j6,eD,Bx⟩
    case measure=>simp[intOf];omega
  ·obtain rfl:n=j:=by omega
   have hg:=HG.out;rw[Jav (by have:=Hl.out;omega)] at hg;replace hg:(zV,ρ)=(r,ok):=hg;injection hg with xL iZ
   subst xL iZ;have mN:=qh (aL.out.alloc (δ #[J 0,J 0,γ ε 0 0,μ {data:=#[]},J 0] 59));have kC:=qh (aI HB.out (δ #[J 0,J 0,γ ε 0 0,μ {data:=#[]},J 0] 59));have f0:=mN.out.free 0;have k0:=mN.out.cell (i:=0) rfl;have f1:=mN.out.free 1;have k1:=mN.out.cell (i:=1) rfl;have f2:=mN.out.free 2;have k2:=mN.out.cell (i:=2) rfl;have f3:=mN.out.free 3;have k3:=mN.out.cell (i:=3) rfl;have f4:=mN.out.free 4;have k4:=mN.out.cell (i:=4) rfl;have HY:=qh (((((mN.out.set_ 0 (J 0)).set_ 1 (J 0)).set_ 2 (γ ε 0 0)).set_ 3 (μ {data:=#[]})).set_ 4 (J 0));have rQ:=qh (((((kC.out.setCell (p:=⟨b1,0,ε⟩) iP.out (J 0)).setCell (p:=⟨b1,1,ε⟩) iP.out (J 0)).setCell (p:=⟨b1,2,ε⟩) iP.out (γ ε 0 0)).setCell (p:=⟨b1,3,ε⟩) iP.out (μ {data:=#[]})).setCell (p:=⟨b1,4,ε⟩) iP.out (J 0));clear HG aL mN kC;go_wp2;exact bS rfl b1 rfl rfl HY.out Tryz.underlying59 rfl (by kernel_rfl) rfl ⟨rfl,rQ.out⟩
theorem mL {w:ο} {A B:Option Κ} {n c m k:Nat} {Vs:List VC} {Es:List EC} (h:bz w A n c Vs B m k Es) (hr:∀x∈Vs,x.2.1.2.1≤1000000) (x:Int × Int):
 RgOk w (eP Vs x).1.2.1∧(eP Vs x).1.2.1.2.1≤1000000:=by
 rcases II (fun v:VC=>v.1) zV Vs x with hm|he
 ·exact⟨h.r _ hm,hr _ hm⟩
 ·have e:eP Vs x=(zV,ρ):=he;rw[e];exact⟨⟨Jas _,bg.no _ _ _⟩,by decide⟩
theorem qU (A:Option Κ) (n c:Nat) (Vs:List VC) (B:Option Κ) (m k:Nat) (Es:List EC) (x1 x2:Int) (w:ο) (h:bz w A n c Vs B m k Es) (hn:n≤1000000) (hr:∀x∈Vs,x.2.1.2.1≤1000000) (r:VC) (ok:Bool) (gr:eP Vs (x1,x2)=(r,ok)):
 Ζ η 142 #[φ #[γ A n c,γ B m k],φ #[J x1,J x2]] w fun e w'=>∃A' c',e=.returned (Ξ #[φ (vC (r.1,(A',r.2.1.2.1,c',r.2.1.2.2.2),r.2.2)).toArray,Β ok])∧Ow w w.heap.size 32 3 (γ A' r.2.1.2.1 c') r.2.1.2.1 (aA r.2.1.2.2.2) w':=by
 have HF:=qh (fun W (hb:σ w.heap.size w W)=>Y0 A n c Vs x1 x2 W (h.v.bl hb) hn);have ec:=mL h hr (x1,x2);rw[gr] at HF ec;have HC:=qh (fun W (hb:σ w.heap.size w W)=>Nq r W (ec.1.below hb) ec.2);obtain⟨⟨i1,i2⟩,⟨rA,rn,rc,rL⟩,lb,at_⟩:=r;clear h gr ec hr;replace HF:Hid (∀W,σ w.heap.size w W→Ζ η 158 #[γ A n c,.func (.func 159) #[] #[],φ #[J x1,J x2]] W fun e w'=>e=.returned (Ξ #[φ #[J i1,J i2,γ rA rn rc,μ lb,J at_],Β ok])∧σ W.heap.size W w'):=HF;replace HC:Hid (∀W,σ w.heap.size w W→Ζ η 106 #[φ #[J i1,J i2,γ rA rn rc,μ lb,J at_]] W fun e w'=>∃A' c',e=.returned (φ #[J i1,J i2,γ A' rn c',μ lb,J at_])∧Ow W W.heap.size 32 3 (γ A' rn c') rn (aA rL) w'):=HC;show Ζ η 142 #[φ #[γ A n c,γ B m k],φ #[J x1,J x2]] w fun e w'=>∃A' c',e=.returned (Ξ #[φ #[J i1,J i2,γ A' rn c',μ lb,J at_],Β ok])∧Ow w w.heap.size 32 3 (γ A' rn c') rn (aA rL) w'
 go_enter Tryz.func142,Tryz.ntmps142;go_wp2_with fail
 have lQ:Whole (((w.alloc (δ #[γ A n c,γ B m k] 25)).alloc (δ #[J x1,J x2] 30)).alloc (δ #[J 0,J 0,γ ε 0 0,μ {data:=#[]},J 0] 59)) (w.heap.size) 25 [γ A n c,γ B m k]:=(((Whole.new_ w 25 [γ A n c,γ B m k]).alloc (δ #[J x1,J x2] 30)).alloc (δ #[J 0,J 0,γ ε 0 0,μ {data:=#[]},J 0] 59));have jq:Whole (((w.alloc (δ #[γ A n c,γ B m k] 25)).alloc (δ #[J x1,J x2] 30)).alloc (δ #[J 0,J 0,γ ε 0 0,μ {data:=#[]},J 0] 59)) (w.heap.size+1) 30 [J x1,J x2]:=((Whole.new2 (w:=(w.alloc (δ #[γ A n c,γ B m k] 25))) (by simp)).alloc (δ #[J 0,J 0,γ ε 0 0,μ {data:=#[]},J 0] 59));have uU:Whole (((w.alloc (δ #[γ A n c,γ B m k] 25)).alloc (δ #[J x1,J x2] 30)).alloc (δ #[J 0,J 0,γ ε 0 0,μ {data:=#[]},J 0] 59)) (w.heap.size+1+1) 59 [J 0,J 0,γ ε 0 0,μ {data:=#[]},J 0]:=(Whole.new2 (w:=((w.alloc (δ #[γ A n c,γ B m k] 25)).alloc (δ #[J x1,J x2] 30))) (by simp));have oI:σ w.heap.size w (((w.alloc (δ #[γ A n c,γ B m k] 25)).alloc (δ #[J x1,J x2] 30)).alloc (δ #[J 0,J 0,γ ε 0 0,μ {data:=#[]},J 0] 59)):=(aI (aI (az w (δ #[γ A n c,γ B m k] 25)) (δ #[J x1,J x2] 30)) (δ #[J 0,J 0,γ ε 0 0,μ {data:=#[]},J 0] 59))
 have fU:w.heap.size+1+1+1≤((((w.alloc (δ #[γ A n c,γ B m k] 25)).alloc (δ #[J x1,J x2] 30)).alloc (δ #[J 0,J 0,γ ε 0 0,μ {data:=#[]},J 0] 59))).heap.size:=by simp
 obtain⟨W0,bO⟩:=aB ((((w.alloc (δ #[γ A n c,γ B m k] 25)).alloc (δ #[J x1,J x2] 30)).alloc (δ #[J 0,J 0,γ ε 0 0,μ {data:=#[]},J 0] 59)));rw[bO] at lQ jq uU oI fU;obtain⟨b2,jc⟩:=aB (w.heap.size+1+1);rw[jc] at uU;obtain⟨b1,dE⟩:=aB (w.heap.size+1);rw[dE] at jq;obtain⟨b0,bp⟩:=aB w.heap.size;rw[bp] at lQ;have aQ:=qh lQ;have aL:=qh jq;have aZ:=qh uU;have bw:=qh oI;have mQ:=qh fU;have lZ:=qh bp;have oa:Hid (w.heap.size≤b0):=qh (by omega);have uD:=qh dE;have iP:Hid (w.heap.size≤b1):=qh (by omega);have X0:=qh jc;have eI:Hid (w.heap.size≤b2):=qh (by omega);have uW:Hid (b0≠b1):=qh (by omega);have RA:Hid (b0≠b2):=qh (by omega);have tU:Hid (b1≠b2):=qh (by omega);(try rw[bO,jc,dE,bp]);clear bO oI fU lQ jq uU bp dE jc
 refine(HF.out _ bw.out).mono ?_
 rintro e W3 ⟨rfl,hb⟩;have bB:=qh (ag bw.out hb);have cE:=qh (aZ.out.bl hb);clear hb aZ aL aQ bw HF;go_wp2_with fail
 refine(HC.out _ (aI bB.out _)).mono ?_
 rintro e W4 ⟨A',c',rfl,ho⟩;have dz:=cE.out.lt;have bj:=ho.low_ne (g:=b2) (by simp;omega);have hB4:=ag (aI bB.out (δ #[J i1,J i2,γ rA rn rc,μ lb,J at_] 59)) ho.below;have uM:=qh ((cE.out.alloc (δ #[J i1,J i2,γ rA rn rc,μ lb,J at_] 59)).bl ho.below);have hO:Ow w w.heap.size 32 3 (γ A' rn c') rn (aA rL) W4:=⟨sD ho.own (by have:=bB.out.size;simp;omega),hB4,Δ _,hB4.size⟩;have HO:=qh (((((hO.set_far (i:=0) bj eI.out (J i1)).set_far (i:=1) bj eI.out (J i2)).set_far (i:=2) bj eI.out (γ A' rn c')).set_far (i:=3) bj eI.out (μ lb)).set_far (i:=4) bj eI.out (J at_));have f0:=uM.out.free 0;have k0:=uM.out.cell (i:=0) rfl;have f1:=uM.out.free 1;have k1:=uM.out.cell (i:=1) rfl;have f2:=uM.out.free 2;have k2:=uM.out.cell (i:=2) rfl;have f3:=uM.out.free 3;have k3:=uM.out.cell (i:=3) rfl;have f4:=uM.out.free 4;have k4:=uM.out.cell (i:=4) rfl;have HY:=qh (((((uM.out.set_ 0 (J i1)).set_ 1 (J i2)).set_ 2 (γ A' rn c')).set_ 3 (μ lb)).set_ 4 (J at_));clear dz bj hB4 hO ho cE uM bB HC;go_wp2;exact bS rfl b2 rfl rfl HY.out Tryz.underlying59 rfl (by kernel_rfl) rfl ⟨A',c',rfl,HO.out⟩
def vS (v:VC):(Int × Int) × List D × ByteArray × Int:=(v.1,v.2.1.2.2.2,v.2.2.1,v.2.2.2)
theorem bytes_inj {t t':ByteArray} (h:t.toList=t'.toList):t=t':=by
 rw[ByteArray.toList_eq,ByteArray.toList_eq] at h;exact ByteArray.ext (Array.toList_inj.1 h)
theorem yX (s t:ByteArray):s.toList=t.toList↔s=t:=⟨bytes_inj,fun h=>by rw[h]⟩
theorem bytes_beq (s t:ByteArray):(s.toList==t.toList)=decide (s=t):=by
 rw[Bool.eq_iff_iff];simp[yX]
theorem Qz (a b:EC) (W:ο):(binOp .neq 67 (φ (eC a).toArray) (φ (eC b).toArray)).run η W=.ok (Β (!decide (a=b))) W:=by
 obtain⟨⟨a1,a2⟩,a3,a4⟩:=a;obtain⟨⟨b1,b2⟩,b3,b4⟩:=b
 by_cases h1:a1=b1<;>by_cases h2:a2=b2<;>by_cases h3:a3=b3<;>by_cases h4:a4=b4<;>simp[go_sem,eC,yX,h1,h2,h3,h4]
theorem DP {w W:ο} {bb o:Nat} {cs:List ψ} (hb:σ w.heap.size w W) (hB:bb<w.heap.size) (h:∀j v,cs[j]? =ζ v→w.cell? (Addr.add ⟨bb,o,ε⟩ j)=ζ v):
 ∀w',Kept aO W w'→∀j v,cs[j]? =ζ v→w'.cell? (Addr.add ⟨bb,o,ε⟩ j)=ζ v:=fun w' hk j v hv=>hk.nil_cell ((hb.cell (by rw[en];exact hB)).trans (h j v hv))
abbrev Gn:=D × D
def cZ (g:Gn):List ψ:=[J g.1.1,J g.1.2.1,J g.1.2.2,J g.2.1,J g.2.2.1,J g.2.2.2]
theorem bT (g:Gn):(cZ g).length=6:=rfl
theorem kz (g:Gn):∀v∈cZ g,v.oneCell'=τ:=by simp[cZ,Τ]
def zD:D:=(0,0,0)
def fX:List Gn→D→D × Bool
 |[],_=>(zD,ρ)
 |g::G,d=>if g.1=d then(g.2,τ) else fX G d
def kr (st:D→Bool) (G:List Gn):Nat→D→D
 |0,d=>if st d=τ then d else zD
 |k+1,d=>if st d=τ then d else if (fX G d).2=τ then kr st G k (fX G d).1 else zD
theorem Jb (st:D→Bool) (G:List Gn) (n:Nat) {d:D} (h:st d=τ):kr st G n d=d:=by
 cases n<;>simp only[kr,if_pos h]
theorem Jf (st:D→Bool) (G:List Gn) (n:Nat) {d:D} (h:¬st d=τ) (ht:(fX G d).2=τ):kr st G (n+1) d=kr st G n (fX G d).1:=by
 simp only[kr,if_neg h,if_pos ht]
theorem J4 (st:D→Bool) (G:List Gn) (n:Nat) {d:D} (h:¬st d=τ) (ht:¬(fX G d).2=τ):kr st G n d=zD:=by
 cases n with
 |zero=>simp only[kr,if_neg h]
 |succ n=>simp only[kr,if_neg h,if_neg ht]
theorem M9 (st:D→Bool) (G:List Gn) {d:D} (h:¬st d=τ):kr st G 0 d=zD:=by simp only[kr,if_neg h]
theorem zL:∀{G:List Gn} {d:D},(fX G d).2=τ→(d,(fX G d).1)∈G
 |[],_,h=>by cases h
 |g::G,d,h=>by
  by_cases e:g.1=d
  ·have e2:fX (g::G) d=(g.2,τ):=by simp only[fX,if_pos e]
   rw[e2,←e];exact List.mem_cons_self
  ·have e2:fX (g::G) d=fX G d:=by simp only[fX,if_neg e]
   rw[e2] at h ⊢;exact List.mem_cons_of_mem _ (zL h)
theorem Ot (A:Option Κ) (n c:Nat) (G:List Gn) (d:D) (w:ο) (h:bg w w.heap.size 6 A n c (ah cZ G)) (hn:n≤1000000):
 Ζ η 160 #[γ A n c,φ #[J d.1,J d.2.1,J d.2.2]] w fun e w'=>e=.returned (Ξ #[φ #[J (fX G d).1.1,J (fX G d).1.2.1,J (fX G d).1.2.2],Β (fX G d).2])∧σ w.heap.size w w':=by
 have H:=qh h;have Hl:=qh (h.rlen bT (by decide));obtain⟨⟨r,ok⟩,gr⟩:∃z,fX G d=z:=⟨_,rfl⟩
 rw[gr];have HG:=qh gr;clear h gr;go_enter Tryz.func160,Tryz.ntmps160;go_wp2;obtain⟨W0,b0,b1,bO,bp,dE,aQ,aL,bw,mQ,lZ,oa,uD,iP,uW⟩:=wT w 32 [J d.1,J d.2.1,J d.2.2] 32 [J 0,J 0,J 0];rw[bO,dE,bp];clear bO bp dE;go_loopw [10] (fun si wr=>∃j:Nat,j≤n∧si=J j∧Hid (σ w.heap.size w wr)∧Hid (Whole wr b0 32 [J d.1,J d.2.1,J d.2.2])∧Hid (Whole wr b1 32 [J 0,J 0,J 0])∧Hid (fX (G.drop j) d=(r,ok))) (fun si _=>n - (intOf si).toNat)
 case atStart=>exact⟨0,by omega,rfl,bw,aQ,aL,HG⟩
 case round=>
  clear bw aQ aL HG;obtain⟨j,hj,rfl,HB,aQ,aL,HG⟩:=hrel;obtain⟨wo,cS⟩:=aB wr;rw[cS] at HB aQ aL ⊢;clear cS
  by_cases nT:j<n
  ·obtain⟨x,hx⟩:∃x,G[j]? =ζ x:=⟨_,θ (by have:=Hl.out;omega)⟩
   have kd:G.drop j=x::G.drop (j+1):=by
    rw[Χ (ν.1 hx).1,(ν.1 hx).2]
   have iZ:=HG.out;rw[kd] at iZ;have dQ:=qh iZ;obtain⟨bb,off,rfl,aY,a8⟩:=H.out.place bT (by decide) (by omega);have bC:=HB.out;have q0:=a8 j _ hx 0 _ rfl;have q1:=a8 j _ hx 1 _ rfl;have q2:=a8 j _ hx 2 _ rfl;have q3:=a8 j _ hx 3 _ rfl;have q4:=a8 j _ hx 4 _ rfl;have q5:=a8 j _ hx 5 _ rfl;simp only[Ν,Jac] at q0 q1 q2 q3 q4 q5;have l0:=(bC.cell (p:=⟨bb,off+j*6,ε⟩) aY).trans q0;have l1:=(bC.cell (p:=⟨bb,off+j*6+1,ε⟩) aY).trans q1;have l2:=(bC.cell (p:=⟨bb,off+j*6+2,ε⟩) aY).trans q2;have l3:=(bC.cell (p:=⟨bb,off+j*6+3,ε⟩) aY).trans q3;have l4:=(bC.cell (p:=⟨bb,off+j*6+4,ε⟩) aY).trans q4;have l5:=(bC.cell (p:=⟨bb,off+j*6+5,ε⟩) aY).trans q5;clear bC q0 q1 q2 q3 q4 q5;have lX:=qh (aI HB.out (δ #[J x.1.1,J x.1.2.1,J x.1.2.2,J x.2.1,J x.2.2.1,J x.2.2.2] 98));have j6:=qh (aQ.out.alloc (δ #[J x.1.1,J x.1.2.1,J x.1.2.2,J x.2.1,J x.2.2.1,J x.2.2.2] 98));have eD:=qh (aL.out.alloc (δ #[J x.1.1,J x.1.2.1,J x.1.2.2,J x.2.1,J x.2.2.1,J x.2.2.2] 98));have z0:=j6.out.cell (i:=0) rfl;have z1:=j6.out.cell (i:=1) rfl;have z2:=j6.out.cell (i:=2) rfl;have hq:=iI x.1 d;clear hx kd iZ a8 aY HG HB aQ aL
   by_cases hd:x.1=d
   ·rw[decide_eq_true hd] at hq;have hg:=dQ.out;rw[fX,if_pos hd] at hg;injection hg with xL iZ
    subst xL iZ;have f0:=eD.out.free 0;have f1:=eD.out.free 1;have f2:=eD.out.free 2;have k0:=eD.out.cell (i:=0) rfl;have k1:=eD.out.cell (i:=1) rfl;have k2:=eD.out.cell (i:=2) rfl;have HY:=qh (((eD.out.set_ 0 (J x.2.1)).set_ 1 (J x.2.2.1)).set_ 2 (J x.2.2.2));have rQ:=qh (((lX.out.setCell (p:=⟨b1,0,ε⟩) iP.out (J x.2.1)).setCell (p:=⟨b1,1,ε⟩) iP.out (J x.2.2.1)).setCell (p:=⟨b1,2,ε⟩) iP.out (J x.2.2.2));clear eD j6 lX dQ hd;go_wp2;exact bS rfl b1 rfl rfl HY.out Tryz.underlying32 rfl (by kernel_rfl) rfl ⟨rfl,rQ.out⟩
   ·rw[decide_eq_false hd] at hq;have hg:=dQ.out;rw[fX,if_neg hd] at hg;have Bx:=qh hg;clear hg dQ hd;go_wp2;go_roundw
    case rel=>exact⟨j+1,by omega,by go_num,lX,j6,eD,Bx⟩
    case measure=>simp[intOf];omega
  ·obtain rfl:n=j:=by omega
   have hg:=HG.out;rw[Jav (by have:=Hl.out;omega)] at hg;replace hg:(zD,ρ)=(r,ok):=hg;injection hg with xL iZ
   subst xL iZ;have f0:=aL.out.free 0;have f1:=aL.out.free 1;have f2:=aL.out.free 2;have k0:=aL.out.cell (i:=0) rfl;have k1:=aL.out.cell (i:=1) rfl;have k2:=aL.out.cell (i:=2) rfl;have HY:=qh (((aL.out.set_ 0 (J 0)).set_ 1 (J 0)).set_ 2 (J 0));have rQ:=qh (((HB.out.setCell (p:=⟨b1,0,ε⟩) iP.out (J 0)).setCell (p:=⟨b1,1,ε⟩) iP.out (J 0)).setCell (p:=⟨b1,2,ε⟩) iP.out (J 0));clear HG aL;go_wp2;exact bS rfl b1 rfl rfl HY.out Tryz.underlying32 rfl (by kernel_rfl) rfl ⟨rfl,rQ.out⟩
def xW (Vs:List VC) (x:D):Bool:=(lE Vs x).2
theorem GZ (A:Option Κ) (n c:Nat) (Vs:List VC) (B:Option Κ) (m k:Nat) (Es:List EC) (C:Option Κ) (g gc:Nat) (G:List Gn) (d:D) (w:ο) (h:bz w A n c Vs B m k Es) (hn:n≤1000000) (hr:∀y∈Vs,y.2.1.2.1≤1000000) (hg:bg w w.heap.size 6 C g gc (ah cZ G)) (Fm:g≤1000000):
 Ζ η 143 #[φ #[γ A n c,γ B m k,γ C g gc],φ #[J d.1,J d.2.1,J d.2.2]] w fun e w'=>e=.returned (φ #[J (kr (xW Vs) G g d).1,J (kr (xW Vs) G g d).2.1,J (kr (xW Vs) G g d).2.2])∧σ w.heap.size w w':=by
 have HA:=qh (fun W (hb:σ w.heap.size w W) (x:D)=>K3 A n c Vs B m k Es x.1 x.2.1 x.2.2 W (h.below hb) hn hr);have HF:=qh (fun W (hb:σ w.heap.size w W) (x:D)=>Ot C g gc G x W (hg.bl hb) Fm);obtain⟨R,gR⟩:=aB (kr (xW Vs) G g d);rw[gR];have HG:=qh gR;clear h hg gR hr;go_enter Tryz.func143,Tryz.ntmps143;go_wp2;go_step3;go_wp2;go_step3;go_wp2;obtain⟨W0,b0,b1,b2,bO,bp,dE,jc,aQ,aL,aZ,bw,mQ,lZ,oa,uD,iP,X0,eI,uW,RA,tU⟩:=Bs w 28 [γ A n c,γ B m k,γ C g gc] 32 [J d.1,J d.2.1,J d.2.2] 32 [J 0,J 0,J 0];rw[bO,jc,dE,bp];clear bO bp dE jc;go_loopw [5] (fun sl wr=>∃(q:Nat) (y:D),q≤g∧sl=J q∧Hid (σ w.heap.size w wr)∧Hid (Whole wr b0 28 [γ A n c,γ B m k,γ C g gc])∧Hid (Whole wr b1 32 [J y.1,J y.2.1,J y.2.2])∧Hid (Whole wr b2 32 [J 0,J 0,J 0])∧Hid (kr (xW Vs) G q y=R)) (fun sl _=>(intOf sl).toNat)
 case atStart=>exact⟨g,d,Δ _,rfl,bw,aQ,aL,aZ,HG⟩
 case round=>
  clear bw aQ aL aZ HG;obtain⟨q,y,hq,rfl,HB,aQ,aL,aZ,HG⟩:=hrel;obtain⟨wo,cS⟩:=aB wr;rw[cS] at HB aQ aL aZ ⊢;clear cS;have hA1:=HA.out wo HB.out y;have hF1:=fun W hb=>HF.out W hb y
  have ZT:xW Vs y=(lE Vs y).2:=rfl;have hFt:=zL (G:=G) (d:=y);have Tc:=fun h=>Jb (xW Vs) G q (d:=y) h
  have M0:=fun p h ht=>Jf (xW Vs) G p (d:=y) h ht
  have Me:=fun h ht=>J4 (xW Vs) G q (d:=y) h ht
  have abA:=fun h=>M9 (xW Vs) G (d:=y) h
  obtain⟨⟨⟨a1,a2⟩,sb⟩,ga⟩:∃z,lE Vs y=z:=⟨_,rfl⟩
  obtain⟨⟨⟨t1,t2,t3⟩,tb⟩,gt⟩:∃z,fX G y=z:=⟨_,rfl⟩
  rw[ga] at hA1 ZT;rw[gt] at hF1 M0 Me;replace ZT:xW Vs y=sb:=ZT;have Xg:=qh ZT;have Dc:=qh Tc;have Df:=qh M0;have Da:=qh Me;have K8:=qh abA;have Ny:=qh hA1;have Bh:=qh hF1;have c0:=aQ.out.cell (i:=0) rfl;have c1:=aQ.out.cell (i:=1) rfl;have e0:=aL.out.cell (i:=0) rfl;have e1:=aL.out.cell (i:=1) rfl;have e2:=aL.out.cell (i:=2) rfl;clear hA1 hF1 ZT hFt Tc M0 Me abA ga gt;obtain⟨y1,y2,y3⟩:=y;cases sb with
  |true=>
   have hR:=(Dc.out Xg.out).symm.trans HG.out;obtain rfl:=hR;clear HG Df Da K8 Dc Xg
   go_wp2_with (first
    |(go_at_call 151
      refine Ny.out.mono ?_;rintro e w1 ⟨rfl,cP⟩;have bE:=qh (aI (ag HB.out cP) (δ #[J a1,J a2] 30));have eF:=qh ((aQ.out.below cP).alloc (δ #[J a1,J a2] 30));have cK:=qh ((aL.out.below cP).alloc (δ #[J a1,J a2] 30));have ij:=qh ((aZ.out.below cP).alloc (δ #[J a1,J a2] 30));have c2:=eF.out.cell (i:=2) rfl;have p0:=cK.out.cell (i:=0) rfl;have p1:=cK.out.cell (i:=1) rfl;have p2:=cK.out.cell (i:=2) rfl;clear cP aQ aL aZ c0 c1 e0 e1 e2 Ny)
    |(go_at_call 160
      refine(Bh.out _ bE.out).mono ?_
      rintro e w2 ⟨rfl,aP⟩;have bG:=qh (aI (ag bE.out aP) (δ #[J t1,J t2,J t3] 32));have vG:=qh ((eF.out.below aP).alloc (δ #[J t1,J t2,J t3] 32));have j7:=qh ((cK.out.below aP).alloc (δ #[J t1,J t2,J t3] 32));have iq:=qh ((ij.out.below aP).alloc (δ #[J t1,J t2,J t3] 32));have s0:=j7.out.cell (i:=0) rfl;have s1:=j7.out.cell (i:=1) rfl;have s2:=j7.out.cell (i:=2) rfl;have k0:=iq.out.cell (i:=0) rfl;have k1:=iq.out.cell (i:=1) rfl;have k2:=iq.out.cell (i:=2) rfl;have f0:=iq.out.free 0;have f1:=iq.out.free 1;have f2:=iq.out.free 2;clear aP eF cK ij c2 p0 p1 p2 bE Bh))
   rw[Exit.noGoto_ret];exact dO rfl b2 rfl (((iq.out.set_ 0 (J y1)).set_ 1 (J y2)).set_ 2 (J y3)) Tryz.underlying32 rfl (by kernel_rfl) rfl ⟨rfl,(((bG.out.setCell (p:=⟨b2,0,ε⟩) eI.out (J y1)).setCell (p:=⟨b2,1,ε⟩) eI.out (J y2)).setCell (p:=⟨b2,2,ε⟩) eI.out (J y3))⟩
  |false=>
   have XO:¬xW Vs (y1,y2,y3)=τ:=by rw[Xg.out];decide
   cases tb with
   |false=>
    have hR:=(Da.out XO (fun e=>by cases e)).symm.trans HG.out;obtain rfl:=hR;clear HG Df Da K8 Dc Xg XO
    go_wp2_with (first
     |(go_at_call 151
       refine Ny.out.mono ?_;rintro e w1 ⟨rfl,cP⟩;have bE:=qh (aI (ag HB.out cP) (δ #[J a1,J a2] 30));have eF:=qh ((aQ.out.below cP).alloc (δ #[J a1,J a2] 30));have cK:=qh ((aL.out.below cP).alloc (δ #[J a1,J a2] 30));have ij:=qh ((aZ.out.below cP).alloc (δ #[J a1,J a2] 30));have c2:=eF.out.cell (i:=2) rfl;have p0:=cK.out.cell (i:=0) rfl;have p1:=cK.out.cell (i:=1) rfl;have p2:=cK.out.cell (i:=2) rfl;clear cP aQ aL aZ c0 c1 e0 e1 e2 Ny)
     |(go_at_call 160
       refine(Bh.out _ bE.out).mono ?_
       rintro e w2 ⟨rfl,aP⟩;have bG:=qh (aI (ag bE.out aP) (δ #[J t1,J t2,J t3] 32));have vG:=qh ((eF.out.below aP).alloc (δ #[J t1,J t2,J t3] 32));have j7:=qh ((cK.out.below aP).alloc (δ #[J t1,J t2,J t3] 32));have iq:=qh ((ij.out.below aP).alloc (δ #[J t1,J t2,J t3] 32));have k0:=iq.out.cell (i:=0) rfl;have k1:=iq.out.cell (i:=1) rfl;have k2:=iq.out.cell (i:=2) rfl;have f0:=iq.out.free 0;have f1:=iq.out.free 1;have f2:=iq.out.free 2;clear aP eF cK ij c2 p0 p1 p2 bE Bh))
    rw[Exit.noGoto_ret];exact dO rfl b2 rfl (((iq.out.set_ 0 (J 0)).set_ 1 (J 0)).set_ 2 (J 0)) Tryz.underlying32 rfl (by kernel_rfl) rfl ⟨rfl,(((bG.out.setCell (p:=⟨b2,0,ε⟩) eI.out (J 0)).setCell (p:=⟨b2,1,ε⟩) eI.out (J 0)).setCell (p:=⟨b2,2,ε⟩) eI.out (J 0))⟩
   |true=>
    cases q with
    |zero=>
     have hR:=(K8.out XO).symm.trans HG.out;obtain rfl:=hR;clear HG Df Da K8 Dc Xg XO;rw[show((0:Nat):Int)=0 from rfl]
     go_wp2_with (first
      |(go_at_call 151
        refine Ny.out.mono ?_;rintro e w1 ⟨rfl,cP⟩;have bE:=qh (aI (ag HB.out cP) (δ #[J a1,J a2] 30));have eF:=qh ((aQ.out.below cP).alloc (δ #[J a1,J a2] 30));have cK:=qh ((aL.out.below cP).alloc (δ #[J a1,J a2] 30));have ij:=qh ((aZ.out.below cP).alloc (δ #[J a1,J a2] 30));have c2:=eF.out.cell (i:=2) rfl;have p0:=cK.out.cell (i:=0) rfl;have p1:=cK.out.cell (i:=1) rfl;have p2:=cK.out.cell (i:=2) rfl;clear cP aQ aL aZ c0 c1 e0 e1 e2 Ny)
      |(go_at_call 160
        refine(Bh.out _ bE.out).mono ?_
        rintro e w2 ⟨rfl,aP⟩;have bG:=qh (aI (ag bE.out aP) (δ #[J t1,J t2,J t3] 32));have vG:=qh ((eF.out.below aP).alloc (δ #[J t1,J t2,J t3] 32));have j7:=qh ((cK.out.below aP).alloc (δ #[J t1,J t2,J t3] 32));have iq:=qh ((ij.out.below aP).alloc (δ #[J t1,J t2,J t3] 32));have k0:=iq.out.cell (i:=0) rfl;have k1:=iq.out.cell (i:=1) rfl;have k2:=iq.out.cell (i:=2) rfl;have f0:=iq.out.free 0;have f1:=iq.out.free 1;have f2:=iq.out.free 2;clear aP eF cK ij c2 p0 p1 p2 bE Bh))
     rw[Exit.noGoto_ret];exact dO rfl b2 rfl (((iq.out.set_ 0 (J 0)).set_ 1 (J 0)).set_ 2 (J 0)) Tryz.underlying32 rfl (by kernel_rfl) rfl ⟨rfl,(((bG.out.setCell (p:=⟨b2,0,ε⟩) eI.out (J 0)).setCell (p:=⟨b2,1,ε⟩) eI.out (J 0)).setCell (p:=⟨b2,2,ε⟩) eI.out (J 0))⟩
    |succ p=>
     have xH:=qh ((Df.out p XO rfl).symm.trans HG.out);have hq0:((p+1:Nat):Int)≠0:=by omega
     clear HG Df Da K8 Dc Xg XO
     go_wp2_with (first
      |(go_at_call 151
        refine Ny.out.mono ?_;rintro e w1 ⟨rfl,cP⟩;have bE:=qh (aI (ag HB.out cP) (δ #[J a1,J a2] 30));have eF:=qh ((aQ.out.below cP).alloc (δ #[J a1,J a2] 30));have cK:=qh ((aL.out.below cP).alloc (δ #[J a1,J a2] 30));have ij:=qh ((aZ.out.below cP).alloc (δ #[J a1,J a2] 30));have c2:=eF.out.cell (i:=2) rfl;have p0:=cK.out.cell (i:=0) rfl;have p1:=cK.out.cell (i:=1) rfl;have p2:=cK.out.cell (i:=2) rfl;clear cP aQ aL aZ c0 c1 e0 e1 e2 Ny)
      |(go_at_call 160
        refine(Bh.out _ bE.out).mono ?_
        rintro e w2 ⟨rfl,aP⟩;have bG:=qh (aI (ag bE.out aP) (δ #[J t1,J t2,J t3] 32));have vG:=qh ((eF.out.below aP).alloc (δ #[J t1,J t2,J t3] 32));have j7:=qh ((cK.out.below aP).alloc (δ #[J t1,J t2,J t3] 32));have iq:=qh ((ij.out.below aP).alloc (δ #[J t1,J t2,J t3] 32));have k0:=j7.out.cell (i:=0) rfl;have k1:=j7.out.cell (i:=1) rfl;have k2:=j7.out.cell (i:=2) rfl;have f0:=j7.out.free 0;have f1:=j7.out.free 1;have f2:=j7.out.free 2;clear aP eF cK ij c2 p0 p1 p2 bE Bh))
     go_roundw
     case rel=>exact⟨p,(t1,t2,t3),by omega,by go_num,qh (((bG.out.setCell (p:=⟨b1,0,ε⟩) iP.out (J t1)).setCell (p:=⟨b1,1,ε⟩) iP.out (J t2)).setCell (p:=⟨b1,2,ε⟩) iP.out (J t3)),qh (((vG.out.far (p:=⟨b1,0,ε⟩) uW.out (J t1)).far (p:=⟨b1,1,ε⟩) uW.out (J t2)).far (p:=⟨b1,2,ε⟩) uW.out (J t3)),qh (((j7.out.set_ 0 (J t1)).set_ 1 (J t2)).set_ 2 (J t3)),qh (((iq.out.far (p:=⟨b1,0,ε⟩) (fun e=>tU.out e.symm) (J t1)).far (p:=⟨b1,1,ε⟩) (fun e=>tU.out e.symm) (J t2)).far (p:=⟨b1,2,ε⟩) (fun e=>tU.out e.symm) (J t3)),xH⟩
     case measure=>simp[intOf]
def rP (Vs:List VC) (G:List Gn) (g:Nat) (v:Int × Int) (a:D):D:=if kr (xW Vs) G g a∈(eP Vs v).1.2.1.2.2.2 then kr (xW Vs) G g a else zD
theorem ze (A:Option Κ) (n c:Nat) (Vs:List VC) (B:Option Κ) (m k:Nat) (Es:List EC) (C:Option Κ) (g gc:Nat) (G:List Gn) (v1 v2 d1 d2 d3:Int) (w:ο) (h:bz w A n c Vs B m k Es) (hn:n≤1000000) (hr:∀y∈Vs,y.2.1.2.1≤1000000) (hg:bg w w.heap.size 6 C g gc (ah cZ G)) (Fm:g≤1000000) (hv:(eP Vs (v1,v2)).2=ρ):
 Ζ η 114 #[φ #[γ A n c,γ B m k,γ C g gc],φ #[J v1,J v2,J d1,J d2,J d3]] w fun e w'=>e=.returned (Ξ #[φ #[J 0,J 0,J 0,J 0,J 0],J 13])∧σ w.heap.size w w':=by
 have HV:=qh (fun W (hb:σ w.heap.size w W) r ok gr=>qU A n c Vs B m k Es v1 v2 W (h.below hb) hn hr r ok gr);have HF:=qh (fun W (hb:σ w.heap.size w W)=>GZ A n c Vs B m k Es C g gc G (d1,d2,d3) W (h.below hb) hn hr (hg.bl hb) Fm);have kc:=(mL h hr (v1,v2)).2;obtain⟨⟨r,ok⟩,gr⟩:∃z,eP Vs (v1,v2)=z:=⟨_,rfl⟩
 rw[gr] at hv kc;obtain⟨⟨i1,i2⟩,⟨rA,rn,rc,rL⟩,lb,at_⟩:=r;obtain rfl:ok=ρ:=hv;replace HV:Hid (∀W,σ w.heap.size w W→Ζ η 142 #[φ #[γ A n c,γ B m k],φ #[J v1,J v2]] W fun e w'=>∃A' c',e=.returned (Ξ #[φ #[J i1,J i2,γ A' rn c',μ lb,J at_],Β ρ])∧Ow W W.heap.size 32 3 (γ A' rn c') rn (aA rL) w'):=qh (fun W hb=>HV.out W hb _ _ gr);replace kc:rn≤1000000:=kc;have Hrn:=qh kc;clear h hg kc gr hr;clear HF;go_enter Tryz.func114,Tryz.ntmps114;go_wp2_with fail
 obtain⟨W0,b0,b1,b2,bO,bp,dE,jc,aQ,aL,aZ,bw,mQ,lZ,oa,uD,iP,X0,eI,uW,RA,tU⟩:=Bs w 28 [γ A n c,γ B m k,γ C g gc] 34 [J v1,J v2,J d1,J d2,J d3] 34 [J 0,J 0,J 0,J 0,J 0];rw[bO,jc,dE,bp];clear bO bp dE jc;replace HV:=qh (HV.out _ bw.out);have c0:=aQ.out.cell (i:=0) rfl;have c1:=aQ.out.cell (i:=1) rfl;have e0:=aL.out.cell (i:=0) rfl;have e1:=aL.out.cell (i:=1) rfl
 go_wp2_with (first
  |(go_at_call 142
    refine HV.out.mono ?_;rintro e w1 ⟨A',c',rfl,ho⟩;have cP:=ho.below;have bE:=qh (aI (ag bw.out cP) (δ #[J i1,J i2,γ A' rn c',μ lb,J at_] 59));have eF:=qh ((aQ.out.below cP).alloc (δ #[J i1,J i2,γ A' rn c',μ lb,J at_] 59));have cK:=qh ((aL.out.below cP).alloc (δ #[J i1,J i2,γ A' rn c',μ lb,J at_] 59));have ij:=qh ((aZ.out.below cP).alloc (δ #[J i1,J i2,γ A' rn c',μ lb,J at_] 59));have XB:Hid (Whole (w1.alloc (δ #[J i1,J i2,γ A' rn c',μ lb,J at_] 59)) w1.heap.size 59 [J i1,J i2,γ A' rn c',μ lb,J at_]):=qh (Whole.new_ _ _ _);obtain⟨_,_,he,GI⟩:=ho.rds;injection he with h1 h2 h3
    subst h1 h3;have lR:=qh (GI.al (δ #[J i1,J i2,γ A' rn c',μ lb,J at_] 59));have k0:=ij.out.cell (i:=0) rfl;have k1:=ij.out.cell (i:=1) rfl;have k2:=ij.out.cell (i:=2) rfl;have k3:=ij.out.cell (i:=3) rfl;have k4:=ij.out.cell (i:=4) rfl;have f0:=ij.out.free 0;have f1:=ij.out.free 1;have f2:=ij.out.free 2;have f3:=ij.out.free 3;have f4:=ij.out.free 4;clear cP ho aQ aL aZ GI c0 c1 e0 e1 HV))
 exact bS rfl b2 rfl rfl (((((ij.out.set_ 0 (J 0)).set_ 1 (J 0)).set_ 2 (J 0)).set_ 3 (J 0)).set_ 4 (J 0)) Tryz.underlying34 rfl (by kernel_rfl) rfl ⟨rfl,(((((bE.out.setCell (p:=⟨b2,0,ε⟩) eI.out (J 0)).setCell (p:=⟨b2,1,ε⟩) eI.out (J 0)).setCell (p:=⟨b2,2,ε⟩) eI.out (J 0)).setCell (p:=⟨b2,3,ε⟩) eI.out (J 0)).setCell (p:=⟨b2,4,ε⟩) eI.out (J 0))⟩
theorem wv (A:Option Κ) (n c:Nat) (Vs:List VC) (B:Option Κ) (m k:Nat) (Es:List EC) (C:Option Κ) (g gc:Nat) (G:List Gn) (v1 v2 d1 d2 d3:Int) (w:ο) (h:bz w A n c Vs B m k Es) (hn:n≤1000000) (hr:∀y∈Vs,y.2.1.2.1≤1000000) (hg:bg w w.heap.size 6 C g gc (ah cZ G)) (Fm:g≤1000000) (hv:(eP Vs (v1,v2)).2=τ):
 Ζ η 114 #[φ #[γ A n c,γ B m k,γ C g gc],φ #[J v1,J v2,J d1,J d2,J d3]] w fun e w'=>e=.returned (Ξ #[φ #[J v1,J v2,J (rP Vs G g (v1,v2) (d1,d2,d3)).1,J (rP Vs G g (v1,v2) (d1,d2,d3)).2.1,J (rP Vs G g (v1,v2) (d1,d2,d3)).2.2],J 0])∧σ w.heap.size w w':=by
 have HV:=qh (fun W (hb:σ w.heap.size w W) r ok gr=>qU A n c Vs B m k Es v1 v2 W (h.below hb) hn hr r ok gr);have HF:=qh (fun W (hb:σ w.heap.size w W)=>GZ A n c Vs B m k Es C g gc G (d1,d2,d3) W (h.below hb) hn hr (hg.bl hb) Fm);have kc:=(mL h hr (v1,v2)).2;obtain⟨⟨r,ok⟩,gr⟩:∃z,eP Vs (v1,v2)=z:=⟨_,rfl⟩
 rw[gr] at hv kc;obtain⟨⟨i1,i2⟩,⟨rA,rn,rc,rL⟩,lb,at_⟩:=r;obtain rfl:ok=τ:=hv;replace HV:Hid (∀W,σ w.heap.size w W→Ζ η 142 #[φ #[γ A n c,γ B m k],φ #[J v1,J v2]] W fun e w'=>∃A' c',e=.returned (Ξ #[φ #[J i1,J i2,γ A' rn c',μ lb,J at_],Β τ])∧Ow W W.heap.size 32 3 (γ A' rn c') rn (aA rL) w'):=qh (fun W hb=>HV.out W hb _ _ gr);replace kc:rn≤1000000:=kc;have Hrn:=qh kc;have HN:Hid (rP Vs G g (v1,v2) (d1,d2,d3)=if kr (xW Vs) G g (d1,d2,d3)∈rL then kr (xW Vs) G g (d1,d2,d3) else zD):=qh (by unfold rP;rw[gr]);clear h hg kc gr hr;have pU:rP Vs G g (v1,v2) (d1,d2,d3)=if kr (xW Vs) G g (d1,d2,d3)∈rL then kr (xW Vs) G g (d1,d2,d3) else zD:=HN.out
 obtain⟨⟨r1,r2,r3⟩,gR⟩:∃z,kr (xW Vs) G g (d1,d2,d3)=z:=⟨_,rfl⟩
 rw[gR] at pU HF;obtain⟨⟨z1,z2,z3⟩,gZ⟩:∃z,rP Vs G g (v1,v2) (d1,d2,d3)=z:=⟨_,rfl⟩
 rw[gZ] at pU ⊢;replace HF:Hid (∀W,σ w.heap.size w W→Ζ η 143 #[φ #[γ A n c,γ B m k,γ C g gc],φ #[J d1,J d2,J d3]] W fun e w'=>e=.returned (φ #[J r1,J r2,J r3])∧σ W.heap.size W w'):=HF;have Hnc:=qh pU;have HI:Hid (fC rL (r1,r2,r3)=if (r1,r2,r3)∈rL then(rL.idxOf (r1,r2,r3):Int) else -1):=qh rfl;clear pU gR gZ HN;go_enter Tryz.func114,Tryz.ntmps114;go_wp2_with fail
 obtain⟨W0,b0,b1,b2,bO,bp,dE,jc,aQ,aL,aZ,bw,mQ,lZ,oa,uD,iP,X0,eI,uW,RA,tU⟩:=Bs w 28 [γ A n c,γ B m k,γ C g gc] 34 [J v1,J v2,J d1,J d2,J d3] 34 [J 0,J 0,J 0,J 0,J 0];rw[bO,jc,dE,bp];clear bO bp dE jc;replace HV:=qh (HV.out _ bw.out);have c0:=aQ.out.cell (i:=0) rfl;have c1:=aQ.out.cell (i:=1) rfl;have e0:=aL.out.cell (i:=0) rfl;have e1:=aL.out.cell (i:=1) rfl;obtain⟨ix,N1⟩:=aB (fC rL (r1,r2,r3));have SM:=HI.out;rw[N1] at SM
 by_cases hm:(r1,r2,r3)∈rL
 ·rw[if_pos hm] at SM;have hz:=Hnc.out;rw[if_pos hm] at hz;simp only[Jba] at hz;obtain⟨h1,h2,h3⟩:=hz;subst z1 z2 z3;have hq:decide (ix<0)=ρ:=decide_eq_false (by omega);clear SM hm Hnc HI
  go_wp2_with (first
   |(go_at_call 142
     refine HV.out.mono ?_;rintro e w1 ⟨A',c',rfl,ho⟩;have cP:=ho.below;have bE:=qh (aI (ag bw.out cP) (δ #[J i1,J i2,γ A' rn c',μ lb,J at_] 59));have eF:=qh ((aQ.out.below cP).alloc (δ #[J i1,J i2,γ A' rn c',μ lb,J at_] 59));have cK:=qh ((aL.out.below cP).alloc (δ #[J i1,J i2,γ A' rn c',μ lb,J at_] 59));have ij:=qh ((aZ.out.below cP).alloc (δ #[J i1,J i2,γ A' rn c',μ lb,J at_] 59));have XB:Hid (Whole (w1.alloc (δ #[J i1,J i2,γ A' rn c',μ lb,J at_] 59)) w1.heap.size 59 [J i1,J i2,γ A' rn c',μ lb,J at_]):=qh (Whole.new_ _ _ _);obtain⟨_,_,he,GI⟩:=ho.rds;injection he with h1 h2 h3
     subst h1 h3;have lR:=qh (GI.al (δ #[J i1,J i2,γ A' rn c',μ lb,J at_] 59));have a0:=eF.out.cell (i:=0) rfl;have a1:=eF.out.cell (i:=1) rfl;have a2:=eF.out.cell (i:=2) rfl;have p2:=cK.out.cell (i:=2) rfl;have p3:=cK.out.cell (i:=3) rfl;have p4:=cK.out.cell (i:=4) rfl;clear cP ho aQ aL aZ GI c0 c1 e0 e1 HV)
   |(go_at_call 143
     refine(HF.out _ bE.out).mono ?_
     rintro e w2 ⟨rfl,aP⟩;have bG:=qh (aI (ag bE.out aP) (δ #[J r1,J r2,J r3] 32));have vG:=qh ((eF.out.below aP).alloc (δ #[J r1,J r2,J r3] 32));have j7:=qh ((cK.out.below aP).alloc (δ #[J r1,J r2,J r3] 32));have iq:=qh ((ij.out.below aP).alloc (δ #[J r1,J r2,J r3] 32));have SA:=qh ((XB.out.below aP).alloc (δ #[J r1,J r2,J r3] 32));have uc:Hid (Whole (w2.alloc (δ #[J r1,J r2,J r3] 32)) w2.heap.size 32 [J r1,J r2,J r3]):=qh (Whole.new_ _ _ _);have tL:=qh ((lR.out.bl aP).al (δ #[J r1,J r2,J r3] 32));have Lq:Hid (w.heap.size≤w2.heap.size):=qh (ag bE.out aP).size;have m1:b1≠w2.heap.size:=Nat.ne_of_lt (cK.out.below aP).lt;have m2:b2≠w2.heap.size:=Nat.ne_of_lt (ij.out.below aP).lt;have s2:=SA.out.cell (i:=2) rfl;clear aP eF cK ij XB lR a0 a1 a2 p2 p3 p4 bE HF)
   |(go_at_call 144
     refine(il A' rn c' rL (r1,r2,r3) _ tL.out (by have:=Hrn.out;omega)).mono ?_
     rw[N1];rintro e w3 ⟨rfl,bA⟩;have bB:=qh (ag bG.out bA);have eD:=qh (j7.out.below bA);have cE:=qh (iq.out.below bA);have AJ:=qh (uc.out.below bA);have e0:=eD.out.cell (i:=0) rfl;have e1:=eD.out.cell (i:=1) rfl;have u0:=AJ.out.cell (i:=0) rfl;have u1:=AJ.out.cell (i:=1) rfl;have u2:=AJ.out.cell (i:=2) rfl;have fu0:=AJ.out.free 0;have fu1:=AJ.out.free 1;have fu2:=AJ.out.free 2;have k0:=cE.out.cell (i:=0) rfl;have k1:=cE.out.cell (i:=1) rfl;have k2:=cE.out.cell (i:=2) rfl;have k3:=cE.out.cell (i:=3) rfl;have k4:=cE.out.cell (i:=4) rfl;have f0:=cE.out.free 0;have f1:=cE.out.free 1;have f2:=cE.out.free 2;have f3:=cE.out.free 3;have f4:=cE.out.free 4;clear bA vG j7 iq SA tL uc bG s2))
  exact bS rfl b2 rfl rfl (((((cE.out.set_ 0 (J v1)).set_ 1 (J v2)).set_ 2 (J r1)).set_ 3 (J r2)).set_ 4 (J r3)) Tryz.underlying34 rfl (by kernel_rfl) rfl ⟨rfl,(((((bB.out.setCell (p:=⟨b2,0,ε⟩) eI.out (J v1)).setCell (p:=⟨b2,1,ε⟩) eI.out (J v2)).setCell (p:=⟨b2,2,ε⟩) eI.out (J r1)).setCell (p:=⟨b2,3,ε⟩) eI.out (J r2)).setCell (p:=⟨b2,4,ε⟩) eI.out (J r3))⟩
 ·rw[if_neg hm] at SM;have hz:=Hnc.out;rw[if_neg hm] at hz;unfold zD at hz;simp only[Jba] at hz;obtain⟨rfl,rfl,rfl⟩:=hz;have hq:decide (ix<0)=τ:=decide_eq_true (by omega);clear SM hm Hnc HI
  go_wp2_with (first
   |(go_at_call 142
     refine HV.out.mono ?_;rintro e w1 ⟨A',c',rfl,ho⟩;have cP:=ho.below;have bE:=qh (aI (ag bw.out cP) (δ #[J i1,J i2,γ A' rn c',μ lb,J at_] 59));have eF:=qh ((aQ.out.below cP).alloc (δ #[J i1,J i2,γ A' rn c',μ lb,J at_] 59));have cK:=qh ((aL.out.below cP).alloc (δ #[J i1,J i2,γ A' rn c',μ lb,J at_] 59));have ij:=qh ((aZ.out.below cP).alloc (δ #[J i1,J i2,γ A' rn c',μ lb,J at_] 59));have XB:Hid (Whole (w1.alloc (δ #[J i1,J i2,γ A' rn c',μ lb,J at_] 59)) w1.heap.size 59 [J i1,J i2,γ A' rn c',μ lb,J at_]):=qh (Whole.new_ _ _ _);obtain⟨_,_,he,GI⟩:=ho.rds;injection he with h1 h2 h3
     subst h1 h3;have lR:=qh (GI.al (δ #[J i1,J i2,γ A' rn c',μ lb,J at_] 59));have a0:=eF.out.cell (i:=0) rfl;have a1:=eF.out.cell (i:=1) rfl;have a2:=eF.out.cell (i:=2) rfl;have p2:=cK.out.cell (i:=2) rfl;have p3:=cK.out.cell (i:=3) rfl;have p4:=cK.out.cell (i:=4) rfl;clear cP ho aQ aL aZ GI c0 c1 e0 e1 HV)
   |(go_at_call 143
     refine(HF.out _ bE.out).mono ?_
     rintro e w2 ⟨rfl,aP⟩;have bG:=qh (aI (ag bE.out aP) (δ #[J r1,J r2,J r3] 32));have vG:=qh ((eF.out.below aP).alloc (δ #[J r1,J r2,J r3] 32));have j7:=qh ((cK.out.below aP).alloc (δ #[J r1,J r2,J r3] 32));have iq:=qh ((ij.out.below aP).alloc (δ #[J r1,J r2,J r3] 32));have SA:=qh ((XB.out.below aP).alloc (δ #[J r1,J r2,J r3] 32));have uc:Hid (Whole (w2.alloc (δ #[J r1,J r2,J r3] 32)) w2.heap.size 32 [J r1,J r2,J r3]):=qh (Whole.new_ _ _ _);have tL:=qh ((lR.out.bl aP).al (δ #[J r1,J r2,J r3] 32));have Lq:Hid (w.heap.size≤w2.heap.size):=qh (ag bE.out aP).size;have m1:b1≠w2.heap.size:=Nat.ne_of_lt (cK.out.below aP).lt;have m2:b2≠w2.heap.size:=Nat.ne_of_lt (ij.out.below aP).lt;have s2:=SA.out.cell (i:=2) rfl;clear aP eF cK ij XB lR a0 a1 a2 p2 p3 p4 bE HF)
   |(go_at_call 144
     refine(il A' rn c' rL (r1,r2,r3) _ tL.out (by have:=Hrn.out;omega)).mono ?_
     rw[N1];rintro e w3 ⟨rfl,bA⟩;have bB:=qh (ag bG.out bA);have eD:=qh (j7.out.below bA);have cE:=qh (iq.out.below bA);have AJ:=qh (uc.out.below bA);have e0:=eD.out.cell (i:=0) rfl;have e1:=eD.out.cell (i:=1) rfl;have u0:=AJ.out.cell (i:=0) rfl;have u1:=AJ.out.cell (i:=1) rfl;have u2:=AJ.out.cell (i:=2) rfl;have fu0:=AJ.out.free 0;have fu1:=AJ.out.free 1;have fu2:=AJ.out.free 2;have k0:=cE.out.cell (i:=0) rfl;have k1:=cE.out.cell (i:=1) rfl;have k2:=cE.out.cell (i:=2) rfl;have k3:=cE.out.cell (i:=3) rfl;have k4:=cE.out.cell (i:=4) rfl;have f0:=cE.out.free 0;have f1:=cE.out.free 1;have f2:=cE.out.free 2;have f3:=cE.out.free 3;have f4:=cE.out.free 4;clear bA vG j7 iq SA tL uc bG s2))
  exact bS rfl b2 rfl rfl ((((((((cE.out.far (p:=⟨w2.heap.size,0,ε⟩) m2 (J 0)).far (p:=⟨w2.heap.size,1,ε⟩) m2 (J 0)).far (p:=⟨w2.heap.size,2,ε⟩) m2 (J 0)).set_ 0 (J v1)).set_ 1 (J v2)).set_ 2 (J 0)).set_ 3 (J 0)).set_ 4 (J 0)) Tryz.underlying34 rfl (by kernel_rfl) rfl ⟨rfl,((((((((bB.out.setCell (p:=⟨w2.heap.size,0,ε⟩) Lq.out (J 0)).setCell (p:=⟨w2.heap.size,1,ε⟩) Lq.out (J 0)).setCell (p:=⟨w2.heap.size,2,ε⟩) Lq.out (J 0)).setCell (p:=⟨b2,0,ε⟩) eI.out (J v1)).setCell (p:=⟨b2,1,ε⟩) eI.out (J v2)).setCell (p:=⟨b2,2,ε⟩) eI.out (J 0)).setCell (p:=⟨b2,3,ε⟩) eI.out (J 0)).setCell (p:=⟨b2,4,ε⟩) eI.out (J 0))⟩
theorem bU {α:Type} (f:α→List ψ) (h:∀x,∀u∈f x,u.oneCell'=τ):∀L,∀u∈ah f L,u.oneCell'=τ
 |[],u,hu=>by cases hu
 |x::L,u,hu=>by
  rcases List.mem_append.1 (show u∈f x++ah f L from hu) with q|q
  ·exact h x u q
  ·exact bU f h L u q
theorem mP:(η.info? 98).map (fun i=>(i.zero,i.size,i.bytes))=ζ (ζ (φ #[J 0,J 0,J 0,J 0,J 0,J 0]),6,48):=by kernel_rfl
theorem EW {α:Type} (f:α→List ψ) (x:α):ah f [x]=f x:=by simp[ah]
def cH (y x:Gn):Int:=jS y.1.1 y.1.2.1 y.1.2.2 x.1.1 x.1.2.1 x.1.2.2
def S2 (T:List Gn) (x:Gn):Bool:=match T.getLast? with|none=>τ|some y=>decide (cH y x<0)
theorem vN (x:Gn) (d1 d2 d3:Int) (w:ο):Ζ η 166 #[φ #[J x.1.1,J x.1.2.1,J x.1.2.2,J x.2.1,J x.2.2.1,J x.2.2.2],φ #[J d1,J d2,J d3]] w fun e w'=>e=.returned (J (jS x.1.1 x.1.2.1 x.1.2.2 d1 d2 d3))∧σ w.heap.size w w':=by
 have HO:=qh (qs x.1.1 x.1.2.1 x.1.2.2 d1 d2 d3);go_enter Tryz.func166,Tryz.ntmps166
 go_wp2_with (first
  |(go_at_call 167
    refine(HO.out _).mono ?_
    rintro e w2 ⟨rfl,hb⟩;have HB:=qh (ag (aI (az w (δ #[J x.1.1,J x.1.2.1,J x.1.2.2,J x.2.1,J x.2.2.1,J x.2.2.2] 98)) (δ #[J d1,J d2,J d3] 32)) hb);clear hb))
 go_ret;exact⟨rfl,HB.out⟩
theorem DK (A:Option Κ) (n c:Nat) (G:List Gn) (d1 d2 d3:Int) (w:ο) (h:bg w w.heap.size 6 A n c (ah cZ G)) (hn:n≤1000000) (cf:Nat→Int) (IC:∀t x,G[t]? =ζ x→jS x.1.1 x.1.2.1 x.1.2.2 d1 d2 d3=cf t) (ku:∀a b,a≤b→b<n→cf b<0→cf a<0):
 Ζ η 165 #[γ A n c,φ #[J d1,J d2,J d3],.func (.func 166) #[] #[]] w fun e w'=>∃i:Nat,i≤n∧(∀t,t<i→cf t<0)∧(∀t,i≤t→t<n→0≤cf t)∧e=.returned (Ξ #[J (i:Int),Β (decide (i<n) && decide (cf i=0))])∧σ w.heap.size w w':=by
 have H:=qh h;have Hl:=qh (h.rlen bT (by decide));have HM:=qh ku;have he:M8 166:=nH Tryz.func166 (by kernel_rfl) rfl;clear h ku;go_enter Tryz.func165,Tryz.ntmps165;go_wp2;have lQ:=Whole.new_ w 32 [J d1,J d2,J d3];have oI:=az w (δ #[J d1,J d2,J d3] 32);obtain⟨W0,bO⟩:=aB (w.alloc (δ #[J d1,J d2,J d3] 32));replace lQ:Whole W0 w.heap.size 32 [J d1,J d2,J d3]:=bO▸lQ;rw[bO] at oI ⊢;obtain⟨b0,bp⟩:=aB w.heap.size;rw[bp] at lQ ⊢;have aQ:=qh lQ;have bw:=qh oI;clear bO bp lQ oI;go_loopw [9,10] (fun s9 Ni wr=>∃lo hi:Nat,s9=J lo∧Ni=J hi∧lo≤hi∧hi≤n∧Hid (Whole wr b0 32 [J d1,J d2,J d3])∧Hid (σ w.heap.size w wr)∧Hid ((∀t,t<lo→cf t<0)∧(∀t,hi≤t→t<n→0≤cf t))) (fun s9 Ni _=>(intOf Ni).toNat - (intOf s9).toNat)
 case atStart=>exact⟨0,n,rfl,rfl,Jas _,Δ _,aQ,bw,qh ⟨fun t ht=>absurd ht (Nat.not_lt_zero _),fun t h1 h2=>by omega⟩⟩
 case round=>
  clear aQ bw;obtain⟨lo,hi,rfl,rfl,hlh,jm,HX,HB,HI⟩:=hrel;obtain⟨wo,cS⟩:=aB wr;rw[cS] at HX HB ⊢;clear cS
  by_cases dz:lo<hi
  ·obtain⟨m,gm⟩:=aB ((lo+hi) / 2);have KZ:lo≤m:=by omega
   have O0:m<hi:=by omega
   have hmn:m<n:=by omega
   have e1:((lo:Int)+(hi:Int)) / 2=(m:Int):=by omega
   obtain⟨x,hx⟩:∃x,G[m]? =ζ x:=⟨_,θ (by have:=Hl.out;omega)⟩
   obtain⟨b,off,rfl,aY,a8⟩:=H.out.place bT (by decide) (by omega);have bC:=HB.out;have q0:=a8 m _ hx 0 _ rfl;have q1:=a8 m _ hx 1 _ rfl;have q2:=a8 m _ hx 2 _ rfl;have q3:=a8 m _ hx 3 _ rfl;have q4:=a8 m _ hx 4 _ rfl;have q5:=a8 m _ hx 5 _ rfl;simp only[Ν,Jac] at q0 q1 q2 q3 q4 q5;have l0:=(bC.cell (p:=⟨b,off+m*6,ε⟩) aY).trans q0;have l1:=(bC.cell (p:=⟨b,off+m*6+1,ε⟩) aY).trans q1;have l2:=(bC.cell (p:=⟨b,off+m*6+2,ε⟩) aY).trans q2;have l3:=(bC.cell (p:=⟨b,off+m*6+3,ε⟩) aY).trans q3;have l4:=(bC.cell (p:=⟨b,off+m*6+4,ε⟩) aY).trans q4;have l5:=(bC.cell (p:=⟨b,off+m*6+5,ε⟩) aY).trans q5;have wz:=IC m x hx;obtain⟨ov,tJ⟩:=aB (jS x.1.1 x.1.2.1 x.1.2.2 d1 d2 d3);rw[tJ] at wz;have uB:=vN x d1 d2 d3;rw[tJ] at uB;have HC:Hid (∀w',Ζ η 166 #[φ #[J x.1.1,J x.1.2.1,J x.1.2.2,J x.2.1,J x.2.2.1,J x.2.2.2],φ #[J d1,J d2,J d3]] w' fun e bW=>e=.returned (J ov)∧σ w'.heap.size w' bW):=qh uB;have yF:Hid (ov=cf m):=qh wz;clear hx a8 aY bC q0 q1 q2 q3 q4 q5 wz tJ uB;go_upto_region 5 with fail
   have fL:=cz l0;have ld1:=cz l1;have ka:=cz l2;have pV:=cz l3;have tX:=cz l4;have yc:=cz l5;have s6:=cm (i:=0) HX.out rfl;have sX:=cm (i:=1) HX.out rfl;have Yd:=cm (i:=2) HX.out rfl;clear l0 l1 l2 l3 l4 l5
   by_cases py:ov<0
   ·have hq:decide (ov<0)=τ:=decide_eq_true py;have oF:Hid ((∀t,t<m+1→cf t<0)∧(∀t,hi≤t→t<n→0≤cf t)):=qh ⟨fun t ht=>HM.out t m (by omega) (by omega) (by rw[←yF.out];exact py),HI.out.2⟩;clear py HI yF;refine ay (aO) (by kernel_rfl) ?_;refine aa 0 ?_;refine aa 1 ?_;refine aa 2 ?_;refine aa 3 ?_;refine aa 4 ?_;refine aa 5 ?_;refine cV 6 (hy:=by apply bP;rfl;rotate_left;intro w' aC;exact HC.out w';intro w';go_simp) (h:=?_);refine aa 7 ?_;refine aF (by kernel_rfl) ?_ _;intro W3 du;have bB:=qh (ag (aN HB.out) du);have cF:=qh (HX.out.dr.bl du);clear du HB HX fL ld1 ka pV tX yc s6 sX Yd HC;go_wp2;go_roundw
    case rel=>exact⟨m+1,hi,by go_num,rfl,by omega,jm,cF,bB,oF⟩
    case measure=>simp[intOf];omega
   ·have hq:decide (ov<0)=ρ:=decide_eq_false py;have oF:Hid ((∀t,t<lo→cf t<0)∧(∀t,m≤t→t<n→0≤cf t)):=qh ⟨HI.out.1,fun t ht Oz=>Int.not_lt.1 fun h=>by have:=HM.out m t ht Oz h;rw[←yF.out] at this;omega⟩;clear py HI yF;refine ay (aO) (by kernel_rfl) ?_;refine aa 0 ?_;refine aa 1 ?_;refine aa 2 ?_;refine aa 3 ?_;refine aa 4 ?_;refine aa 5 ?_;refine cV 6 (hy:=by apply bP;rfl;rotate_left;intro w' aC;exact HC.out w';intro w';go_simp) (h:=?_);refine aa 7 ?_;refine aF (by kernel_rfl) ?_ _;intro W3 du;have bB:=qh (ag (aN HB.out) du);have cF:=qh (HX.out.dr.bl du);clear du HB HX fL ld1 ka pV tX yc s6 sX Yd HC;go_wp2;go_roundw
    case rel=>exact⟨lo,m,rfl,by first|rfl|go_num,by omega,by omega,cF,bB,oF⟩
    case measure=>simp[intOf];omega
  ·obtain rfl:hi=lo:=by omega
   by_cases ni:hi<n
   ·have e2:(hi:Int)<(n:Int):=by omega
    have e3:¬(hi:Int)<(hi:Int):=by omega
    obtain⟨x,hx⟩:∃x,G[hi]? =ζ x:=⟨_,θ (by have:=Hl.out;omega)⟩
    obtain⟨b,off,rfl,aY,a8⟩:=H.out.place bT (by decide) (by omega);have bC:=HB.out;have q0:=a8 hi _ hx 0 _ rfl;have q1:=a8 hi _ hx 1 _ rfl;have q2:=a8 hi _ hx 2 _ rfl;have q3:=a8 hi _ hx 3 _ rfl;have q4:=a8 hi _ hx 4 _ rfl;have q5:=a8 hi _ hx 5 _ rfl;simp only[Ν,Jac] at q0 q1 q2 q3 q4 q5;have l0:=(bC.cell (p:=⟨b,off+hi*6,ε⟩) aY).trans q0;have l1:=(bC.cell (p:=⟨b,off+hi*6+1,ε⟩) aY).trans q1;have l2:=(bC.cell (p:=⟨b,off+hi*6+2,ε⟩) aY).trans q2;have l3:=(bC.cell (p:=⟨b,off+hi*6+3,ε⟩) aY).trans q3;have l4:=(bC.cell (p:=⟨b,off+hi*6+4,ε⟩) aY).trans q4;have l5:=(bC.cell (p:=⟨b,off+hi*6+5,ε⟩) aY).trans q5;have wz:=IC hi x hx;obtain⟨ov,tJ⟩:=aB (jS x.1.1 x.1.2.1 x.1.2.2 d1 d2 d3);rw[tJ] at wz;have uB:=vN x d1 d2 d3;rw[tJ] at uB;have HC:Hid (∀w',Ζ η 166 #[φ #[J x.1.1,J x.1.2.1,J x.1.2.2,J x.2.1,J x.2.2.1,J x.2.2.2],φ #[J d1,J d2,J d3]] w' fun e bW=>e=.returned (J ov)∧σ w'.heap.size w' bW):=qh uB;have yF:Hid (ov=cf hi):=qh wz;clear hx a8 aY bC q0 q1 q2 q3 q4 q5 wz tJ uB;obtain⟨bq,yb⟩:=aB ((ov==0))
    have kg:(decide (hi<n) && decide (cf hi=0))=bq:=by
     rw[decide_eq_true ni,←yF.out,←yb,Bool.true_and,Bool.eq_iff_iff,decide_eq_true_iff,beq_iff_eq]
    have xG:=qh kg;clear kg;go_upto_region 8 with fail
    have fL:=cz l0;have ld1:=cz l1;have ka:=cz l2;have pV:=cz l3;have tX:=cz l4;have yc:=cz l5;have s6:=cm (i:=0) HX.out rfl;have sX:=cm (i:=1) HX.out rfl;have Yd:=cm (i:=2) HX.out rfl;clear l0 l1 l2 l3 l4 l5;refine ay (aO) (by kernel_rfl) ?_;refine aa 0 ?_;refine aa 1 ?_;refine aa 2 ?_;refine aa 3 ?_;refine aa 4 ?_;refine aa 5 ?_;refine aa 6 ?_;refine aa 7 ?_;refine aa 8 ?_;refine aa 9 ?_;refine aa 10 ?_;refine cV 11 (hy:=by apply bP;rfl;rotate_left;intro w' aC;exact HC.out w';intro w';go_simp) (h:=?_);refine aa 12 ?_;refine aa 13 ?_;refine aa 14 ?_;refine aa 15 ?_;refine aF (by kernel_rfl) ?_ _;intro W3 du;have bB:=qh (ag (aN HB.out) du);clear du HB HX fL ld1 ka pV tX yc s6 sX Yd HC;go_wp2;refine JaN (v:=Ξ #[J (hi:Int),Β bq]) (by simp[results,Tryz.results165,go_sem]) rfl ?_;exact⟨hi,jm,HI.out.1,HI.out.2,by rw[xG.out],bB.out⟩
   ·have e2:¬(hi:Int)<(n:Int):=by omega
    have e3:¬(hi:Int)<(hi:Int):=by omega
    have kg:(decide (hi<n) && decide (cf hi=0))=ρ:=by rw[decide_eq_false ni];rfl
    have xG:=qh kg;clear kg;go_upto_region 8 with fail
    refine ay (aO) (by kernel_rfl) ?_;refine aa 0 ?_;refine aa 1 ?_;refine aa 2 ?_;refine aa 3 ?_;refine aa 4 ?_;refine cp 5 ?_;refine cp 6 ?_;refine cp 7 ?_;refine cp 8 ?_;refine cp 9 ?_;refine cp 10 ?_;refine cp 11 ?_;refine cp 12 ?_;refine aa 13 ?_;refine aa 14 ?_;refine aa 15 ?_;refine aF (by kernel_rfl) ?_ _;intro W3 du;have bB:=qh (ag (aN HB.out) du);clear du HB HX;go_wp2;refine JaN (v:=Ξ #[J (hi:Int),Β ρ]) (by simp[results,Tryz.results165,go_sem]) rfl ?_;exact⟨hi,jm,HI.out.1,HI.out.2,by rw[xG.out],bB.out⟩
theorem da {P:JaE} (w:ο) (dT sT ty elem:Υ) (s b o abj acR:Nat) (a:Κ) (ZV adH m:Nat) (cs:List ψ)
 (hu:P.underlying dT=ζ (.slice elem)) (hs:(P.info? elem).map (·.size)=ζ s) (hm:Nat.min ZV abj=m) (hn:m*s=cs.length)
 (Mq:∀j v,cs[j]? =ζ v→w.cell? (a.add j)=ζ v) (hc:∀j,j<cs.length→(w.cell? ⟨b,o+j,ε⟩).isSome=τ) (hf:∀j,j<cs.length→w.frozen? ⟨b,o+j,ε⟩=ρ) (h1:∀v∈cs,v.oneCell'=τ):
 (Jbr #[dT,sT] ty #[γ (ζ ⟨b,o,ε⟩) abj acR,γ (ζ a) ZV adH]).run P w=.ok (goInt m) (w.setCells b o cs):=by
 have hl:=run_loadCells_list (P:=P) w a cs Mq;have Py:=run_storeCells_cells (P:=P) b o cs 0 w (by simpa using hc) (by simpa using hf) h1;cases hq:P.info? elem with
 |none=>simp[hq] at hs
 |some i=>
  have hi:i.size=s:=by simpa [hq] using hs
  simp[Jbr,run_underlying hu,Builtin.lenOf,Builtin.firstCells,sizeOf,typeInfo,hq,hi,hm,hn,hl,Py]
theorem Ff {w W:ο} {B:Nat} {A:Option Κ} {n c vb:Nat} {G:List Gn} (x:Gn) (hO:Ow w B 98 6 (γ A n c) n (ah cZ G) W) (hx:bg W W.heap.size 6 (ζ ⟨vb,0,ε⟩) 1 1 (ah cZ [x])) (hn:n≤1000):
 Ζ η 168 #[γ A n c,J (n:Int),γ (ζ ⟨vb,0,ε⟩) 1 1] W fun e w'=>∃A' c',e=.returned (γ A' (n+1) c')∧Ow w B 98 6 (γ A' (n+1) c') (n+1) (ah cZ (G++[x])) w':=by
 obtain⟨iG,sU,oS,jO,mC⟩:=aW mP;have HO:=qh hO;have HL:=qh hx;have pU:n≤c:=(aK hO.own).le;have oz:=nB hO.own;unfold Jap at oz;have e1:((n:Int)==(n:Int))=τ:=by simp
 clear hO hx
 by_cases Cw:c=n
 ·go_enter Tryz.func168,Tryz.ntmps168
  go_wp2_with (first
   |(at_builtin
     refine cC rfl (.tmp 23) (.tmp 24) _ rfl _ 98 iG _ 6 48 Tryz.underlying26 sU oS jO mC rfl (by decide) _ _ _ rfl HO.out _ _ _ _ _ rfl HL.out (bU cZ kz [x]) (by unfold Jap;omega) (by omega) ?_;intro v5 W5 jv fP qV;obtain⟨A5,c5,rfl,-⟩:=jv.rds;have BE:=qh jv;clear jv fP qV))
  go_ret;exact⟨_,_,rfl,by rw[bY];exact BE.out⟩
 ·go_enter Tryz.func168,Tryz.ntmps168
  go_wp2_with (first
   |(at_builtin
     refine cC rfl (.tmp 23) (.tmp 24) _ rfl _ 98 iG _ 6 48 Tryz.underlying26 sU oS jO mC rfl (by decide) _ _ _ rfl HO.out _ _ _ _ _ rfl HL.out (bU cZ kz [x]) (by unfold Jap;omega) (by omega) ?_;intro v5 W5 jv fP qV;obtain⟨A5,c5,rfl,-⟩:=jv.rds;have BE:=qh jv;clear jv fP qV))
  go_ret;exact⟨_,_,rfl,by rw[bY];exact BE.out⟩
theorem R6 (rows junk new:List ψ) (i n:Nat) (hr:rows.length=n*6) (hi:i<n) (hj:6≤junk.length) (hn:new.length=6):
 cU (cU (rows++junk) ((i+1)*6) (rows.drop (i*6))) (i*6) new=(rows.take (i*6)++(new++rows.drop (i*6)))++junk.drop 6:=by
 obtain⟨P,hP⟩:=aB (rows.take (i*6));obtain⟨S,hS⟩:=aB (rows.drop (i*6));have hPS:rows=P++S:=by rw[←hP,←hS,List.take_append_drop]
 have R5:P.length=i*6:=by rw[←hP,JaA];omega
 have hSl:S.length=(n - i)*6:=by rw[←hS,Jaz];omega
 rw[hP,hS,hPS]
 have e1:cU (P++S++junk) ((i+1)*6) S=P++((S++junk).take 6++(S++junk.drop 6)):=by
  unfold cU;rw[Jay P S junk,Jbt,JaR,R5];rw[Ι (by omega),Jak (by omega),JaF,Jay];rw[show(i+1)*6 - i*6=6 by omega];congr 2;rw[JaR,Jak (by omega),JaF];rw[show(i+1)*6+S.length - i*6 - S.length=6 by omega]
 rw[e1];unfold cU;have DZ:((S++junk).take 6).length=6:=by rw[JaA,Ε];omega
 rw[Jbt,JaR,R5,hn,JaP,JbQ,Jbi,Ι (by omega),Jak (by omega),JaF];rw[show i*6+6 - i*6=6 by omega,JaR,DZ,Jak (by omega),JaF,JaP,List.drop_zero];simp[Jay]
theorem iH {W:ο} {g:Nat} {t:Υ} {cs:List ψ} (h:Whole W g t cs):W.shape? g=ζ (t,cs.length):=by
 have h2:W.heap[g]? =ζ (δ cs.toArray t):=h;simp[World.shape?,h2]
theorem dA {W:ο} {g:Nat} {t:Υ} {cs:List ψ} (h:Whole W g t cs) {j:Nat} (hj:j<cs.length):(W.cell? ⟨g,j,ε⟩).isSome=τ:=by
 rw[h.cell (i:=j) (θ hj)];rfl
theorem p6 {G:List Gn} (i:Nat):(ah cZ G).take (i*6)=ah cZ (G.take i)∧(ah cZ G).drop (i*6)=ah cZ (G.drop i):=⟨(iz cZ bT G i).symm,(jt cZ bT G i).symm⟩
theorem CH {w W:ο} {B:Nat} {A:Option Κ} {n c vb i:Nat} {G:List Gn} (x:Gn) (hO:Ow w B 98 6 (γ A n c) n (ah cZ G) W) (hx:Whole W vb 98 (cZ x)) (bj:ζ vb≠(Ο A n c).ownBlock) (hn:n≤1000) (hi:i<n) (CK:n+1≤c):
 Ζ η 168 #[γ A n c,J (i:Int),γ (ζ ⟨vb,0,ε⟩) 1 1] W fun e w'=>∃A' c',e=.returned (γ A' (n+1) c')∧Ow w B 98 6 (γ A' (n+1) c') (n+1) (ah cZ (G.take i++x::G.drop i)) w':=by
 obtain⟨iG,sU,oS,jO,mC⟩:=aW mP;obtain⟨b,junk,rfl,fw,hW,ln,pU,oz,j9⟩:=cN hO.own (by omega);have Bq:vb≠b:=fun e=>bj (by rw[e];rfl)
 have qq:(c - n)*6=junk.length:=by rw[Ε,j9] at ln;rw[Nat.sub_mul];omega
 have Sv:6≤junk.length:=by rw[←qq];omega
 unfold Jap at oz;have rB:(ah cZ G++junk).length=c*6:=ln;have jJ:(n - i)*6=((ah cZ G).drop (i*6)).length:=by rw[Jaz,j9,←Nat.sub_mul]
 have fU:(η.info? 98).map (·.size)=ζ 6:=by rw[sU];simp[jO]
 have G1:∀w,(Go.sizeOf 98).run η w=.ok 6 w:=fun w=>by simp[sizeOf,typeInfo,sU,jO]
 have TD:∀lb cb,(callFunc 177 #[γ (ζ ⟨vb,0,ε⟩) 1 1,γ (ζ ⟨b,(i+1)*6,ε⟩) lb cb]).run η W=.ok (.value (Β ρ)) W:=fun lb cb=>by
  rw[run_callFunc_extern Tryz.func177 (by kernel_rfl) (by kernel_rfl) (by kernel_rfl) (e:=Extern.SlicesOverlaps.overlaps #[26,26] #[4]) (by kernel_rfl),
   Lib.run_overlaps_apart W 26 4 98 Tryz.underlying26 6 G1 ⟨vb,0,ε⟩ ⟨b,(i+1)*6,ε⟩ 1 1 lb cb Bq 98 98 _ _ (iH hx) (iH hW) (by rw[ln];omega) (hx.free 0) (hx.free _)]
  rfl
 have zb:∀v∈(ah cZ G).drop (i*6),v.oneCell'=τ:=fun v hv=>bU cZ kz G v (JbC hv)
 have DJ:∀ty dc sc,(Jbr #[26,26] ty #[γ (ζ ⟨b,(i+1)*6,ε⟩) (n - i) dc,γ (ζ ⟨b,i*6,ε⟩) (n+1 - i) sc]).run η W.drew=.ok (goInt (n - i:Nat)) (W.drew.setCells b ((i+1)*6) ((ah cZ G).drop (i*6))):=fun ty dc sc=>
  da W.drew _ _ ty 98 6 b ((i+1)*6) (n - i) dc ⟨b,i*6,ε⟩ (n+1 - i) sc (n - i) _ Tryz.underlying26 fU (by simp only[JbR];split<;>omega) jJ
   (fun j v hj=>by
     rw[Ν];rw[JaS] at hj;exact hW.dr.cell (i:=i*6+j) (by rw[Jab (by have:=(ν.1 hj).1;omega)];exact hj))
   (fun j hj=>dA hW.dr (by rw[←jJ] at hj;rw[rB];omega)) (fun j hj=>hW.dr.free _) zb
 have oR:=hW.dr.cells_ ((ah cZ G).drop (i*6)) ((i+1)*6) W.drew _ (by rw[←jJ,rB];omega);obtain⟨W1,aV⟩:=aB (W.drew.setCells b ((i+1)*6) ((ah cZ G).drop (i*6)));have jq:Whole W1 vb 98 (cZ x):=aV▸hx.dr.cells_far Bq _ _;have cP:σ w.heap.size w W1:=aV▸below_setCells hO.below.drew (Λ hO.lo fw) _ _;have pO:W1.heap.size=W.heap.size:=by rw[←aV,bJ];rfl
 rw[aV] at DJ oR;have a8:(cU (ah cZ G++junk) ((i+1)*6) ((ah cZ G).drop (i*6))).length=c*6:=by rw[eT _ _ _ (by rw[←jJ,rB];omega),rB]
 have OK:∀ty dc,(Jbr #[26,26] ty #[γ (ζ ⟨b,i*6,ε⟩) (n+1 - i) dc,γ (ζ ⟨vb,0,ε⟩) 1 1]).run η W1=.ok (goInt (1:Nat)) (W1.setCells b (i*6) (cZ x)):=fun ty dc=>
  da W1 _ _ ty 98 6 b (i*6) (n+1 - i) dc ⟨vb,0,ε⟩ 1 1 1 _ Tryz.underlying26 fU (by simp only[JbR];split<;>omega) rfl
   (fun j v hj=>by
     rw[Ν,JaI];exact jq.cell hj)
   (fun j hj=>dA oR (by rw[a8];rw[bT] at hj;omega)) (fun j hj=>oR.free _) (kz x)
 have AW:=oR.cells_ (cZ x) (i*6) W1 _ (by rw[a8,bT];omega);rw[R6 (ah cZ G) junk (cZ x) i n j9 hi Sv (bT x),(p6 i).1,(p6 i).2] at AW;have iL:ah cZ (G.take i)++(cZ x++ah cZ (G.drop i))=ah cZ (G.take i++x::G.drop i):=by rw[bY];rfl
 rw[iL] at AW;have Tw:G.length=n:=(aK hO.own).rlen bT (by decide)
 have qx:(ah cZ (G.take i++x::G.drop i)).length=(n+1)*6:=by
  rw[←iL,Ε,Ε,←(p6 i).1,←(p6 i).2,JaA,Jaz,j9,bT];omega
 have HF:Hid (Ow w B 98 6 (γ (ζ ⟨b,0,ε⟩) (n+1) c) (n+1) (ah cZ (G.take i++x::G.drop i)) (W1.setCells b (i*6) (cZ x))):=qh
  ⟨kk (junk:=junk.drop 6) AW fw (by rw[Ε,qx,Jaz,←qq];omega) CK (by unfold Jap;omega) qx,
   below_setCells cP (Λ hO.lo fw) _ _,hO.lo,by rw[bJ,pO];exact hO.hi⟩
 have kK:¬((i:Int)=(n:Int)):=by omega
 have ia:Jaw.wrap ((i:Int)+1)=(i:Int)+1:=by rw[JaT];omega
 have fT:Jaw.wrap ((n:Int)+1)=(n:Int)+1:=by rw[JaT];omega
 have cP:(0:Int)≤(i:Int)+1:=by omega
 have jm:i≤n:=by omega
 have Oz:((i:Int)+1).toNat=i+1:=by omega
 have aa4:((n:Int)+1).toNat=n+1:=by omega
 have aP:¬(c=i+1):=by omega
 have bA:(i:Int)≤(n:Int)+1:=by omega
 have ns:¬(c=i):=by omega
 have fP:¬(c:Int)<(n:Int)+1:=by omega
 have oE:(n:Int)+1≤(c:Int):=by omega
 have mixed:η.follows JbG=τ:=by kernel_rfl
 clear hO hx bj hW ln j9 Bq qq Sv rB jJ fU G1 zb oR aV jq a8 AW iL Tw qx pO;go_enter Tryz.func168,Tryz.ntmps168;go_wp2_with (simp only[TD])
 go_region_law_o (refine step_copy_runI rfl _ _ 26 26 rfl _ _ (by simp[Act.eval,ξ]) (by simp[Act.eval,ξ]) (DJ _ _ _) ?_);go_wp2_with (at_builtin;refine wpList_copy_runI _ rfl _ _ 26 26 rfl _ _ rfl rfl (OK _ _) ?_)
 go_ret;exact⟨_,_,rfl,HF.out⟩
theorem LA (P Z new S:List ψ) (i:Nat) (hP:P.length=i*6) (hn:new.length=6) (hZ:6+S.length≤Z.length):
 cU (cU (P++Z) (i*6) new) ((i+1)*6) S=(P++(new++S))++Z.drop (6+S.length):=by
 have e1:cU (P++Z) (i*6) new=(P++new)++Z.drop 6:=by
  unfold cU;rw[Jbt,JaR,hP,hn,JaP,JbQ,Jbi,Ι (by omega),Jak (by omega),JaF];rw[show i*6+6 - i*6=6 by omega,Jay]
 have hl:(P++new).length=(i+1)*6:=by rw[Ε,hP,hn];omega
 rw[e1];unfold cU;rw[Jbt,JaR,hl,JaP,JbQ,Jbi,Ι (by omega),Jak (by omega),JaF];rw[show(i+1)*6+S.length - (i+1)*6=S.length by omega,List.drop_drop];simp[Jay]
theorem Mu (k:Nat):(JaO (JbL #[J 0,J 0,J 0,J 0,J 0,J 0]).cells k).size=k*6:=by
 simp[JaO,Value.cells]
theorem CC {w W:ο} {B:Nat} {A:Option Κ} {n vb i:Nat} {G:List Gn} (x:Gn) (hO:Ow w B 98 6 (γ A n n) n (ah cZ G) W) (hx:Whole W vb 98 (cZ x)) (hn:n≤1000) (hi:i<n):
 Ζ η 168 #[γ A n n,J (i:Int),γ (ζ ⟨vb,0,ε⟩) 1 1] W fun e w'=>∃A' c',e=.returned (γ A' (n+1) c')∧Ow w B 98 6 (γ A' (n+1) c') (n+1) (ah cZ (G.take i++x::G.drop i)) w':=by
 obtain⟨iG,sU,oS,jO,mC⟩:=aW mP;obtain⟨b,junk,rfl,fw,hW,ln,pU,oz,j9⟩:=cN hO.own (by omega);have jJ:(n - i)*6=((ah cZ G).drop (i*6)).length:=by rw[Jaz,j9,←Nat.sub_mul]
 have a8:((ah cZ G).take (i*6)).length=i*6:=by rw[JaA,j9];omega
 have fU:(η.info? 98).map (·.size)=ζ 6:=by rw[sU];simp[jO]
 have OW:i+(n+1 - i)=n+1:=by omega
 have vj:(n:Int)+1 - (i:Int)=((n+1 - i:Nat):Int):=by omega
 have zb:∀v∈(ah cZ G).drop (i*6),v.oneCell'=τ:=fun v hv=>bU cZ kz G v (JbC hv)
 have hold:(Builtin.firstCells iG.size i (γ (ζ ⟨b,0,ε⟩) i n)).run η W.drew=.ok ((ah cZ G).take (i*6)).toArray W.drew:=by
  rw[jO]
  exact run_firstCells_some W.drew 6 i ⟨b,0,ε⟩ i n _ a8 (fun j v hj=>by
   rw[Ν,JaI];rw[List.getElem?_take] at hj;split at hj
   ·exact hW.dr.cell (i:=j) (by rw[Jab (ν.1 hj).1];exact hj)
   ·cases hj)
 obtain⟨g,hg⟩:=aB W.heap.size;obtain⟨GC,IM⟩:=aB (grownCap W (n+1) n 98);have Y9:n+1≤GC:=by rw[←IM];exact grownCap_ge W _ _ _
 have Dj:GC≤Jap:=by rw[←IM];exact grownCap_le_maxLen W (n+1) n 98 (by unfold Jap;omega)
 obtain⟨qS,xe⟩:=aB (((ah cZ G).take (i*6)).toArray++JaO (JbL #[J 0,J 0,J 0,J 0,J 0,J 0]).cells (n+1 - i)++JaO (JbL #[J 0,J 0,J 0,J 0,J 0,J 0]).cells (GC - (n+1)))
 have Tk:∀ty,(Builtin.append_ #[26,3] ty #[γ (ζ ⟨b,0,ε⟩) i n,J ((n:Int)+1 - (i:Int))]).run η W=.ok (γ (ζ ⟨g,0,ε⟩) (n+1) GC) (W.drew.alloc (δ qS 98)):=fun ty=>by
  have h:=Lib.run_append_grow_zeros W 26 3 ty 98 iG _ .i64 .i64 Tryz.underlying26 Tryz.underlying3 sU oS (ζ ⟨b,0,ε⟩) i n _ hold (n+1 - i) (by omega) (by omega) (by omega) (by omega) (by rw[mC];omega) (by rw[mC,OW];exact growslice_fits (by omega) (by omega));rw[OW,hg,IM,xe] at h;rw[vj];exact h
 obtain⟨Z,hZ⟩:=aB ((JaO (JbL #[J 0,J 0,J 0,J 0,J 0,J 0]).cells (n+1 - i)++JaO (JbL #[J 0,J 0,J 0,J 0,J 0,J 0]).cells (GC - (n+1))).toList)
 have G3:Z.length=(GC - i)*6:=by
  rw[←hZ,Array.length_toList,Array.size_append,Mu,Mu];omega
 have N0:qS=((ah cZ G).take (i*6)++Z).toArray:=by
  rw[←xe,←hZ];simp
 have SZ:b≠g:=by have:=hW.lt;omega
 have YO:vb≠g:=by have:=hx.lt;omega
 obtain⟨P,hP⟩:=aB ((ah cZ G).take (i*6));obtain⟨S,hS⟩:=aB ((ah cZ G).drop (i*6));rw[hP] at a8 N0;rw[hS] at jJ zb;have BP:(P++Z).length=GC*6:=by rw[Ε,a8,G3];omega
 have AZ:Whole (W.drew.alloc (δ qS 98)) g 98 (P++Z):=by
  rw[N0];exact Whole.new2 hg.symm
 have Lm:Whole (W.drew.alloc (δ qS 98)) vb 98 (cZ x):=hx.dr.alloc _;have Nc:Whole (W.drew.alloc (δ qS 98)) b 98 (ah cZ G++junk):=hW.dr.alloc _;have YN:=hO.below.size;have iQ:σ w.heap.size w (W.drew.alloc (δ qS 98)):=aI (aN hO.below) _;have ly:(W.drew.alloc (δ qS 98)).heap.size=W.heap.size+1:=by simp
 obtain⟨V1,fD⟩:=aB (W.drew.alloc (δ qS 98));rw[fD] at AZ Lm Nc iQ ly Tk
 have xk:∀V,V=V1→∀ty dc,(Jbr #[26,26] ty #[γ (ζ ⟨g,i*6,ε⟩) (n+1 - i) dc,γ (ζ ⟨vb,0,ε⟩) 1 1]).run η V=.ok (goInt (1:Nat)) (V1.setCells g (i*6) (cZ x)):=fun V hV ty dc=>by
  subst hV
  exact da V _ _ ty 98 6 g (i*6) (n+1 - i) dc ⟨vb,0,ε⟩ 1 1 1 _ Tryz.underlying26 fU (by simp only[JbR];split<;>omega) rfl
   (fun j v hj=>by
     rw[Ν,JaI];exact Lm.cell hj)
   (fun j hj=>dA AZ (by rw[BP];rw[bT] at hj;omega)) (fun j hj=>AZ.free _) (kz x)
 have BR:=AZ.cells_ (cZ x) (i*6) V1 _ (by rw[BP,bT];omega);have OG:Whole (V1.setCells g (i*6) (cZ x)) b 98 (ah cZ G++junk):=Nc.cells_far SZ _ _;have jd:σ w.heap.size w (V1.setCells g (i*6) (cZ x)):=below_setCells iQ (by omega) _ _;have kK:(V1.setCells g (i*6) (cZ x)).heap.size=W.heap.size+1:=by rw[bJ,ly]
 obtain⟨V2,yV⟩:=aB (V1.setCells g (i*6) (cZ x));rw[yV] at BR OG jd kK xk;have ob:(cU (P++Z) (i*6) (cZ x)).length=GC*6:=by rw[eT _ _ _ (by rw[BP,bT];omega),BP]
 have Mz:∀ty dc sc,(Jbr #[26,26] ty #[γ (ζ ⟨g,(i+1)*6,ε⟩) (n - i) dc,γ (ζ ⟨b,i*6,ε⟩) (n - i) sc]).run η V2.drew=.ok (goInt (n - i:Nat)) (V2.drew.setCells g ((i+1)*6) S):=fun ty dc sc=>
  da V2.drew _ _ ty 98 6 g ((i+1)*6) (n - i) dc ⟨b,i*6,ε⟩ (n - i) sc (n - i) _ Tryz.underlying26 fU (by simp only[JbR];split<;>omega) jJ
   (fun j v hj=>by
     rw[Ν];rw[←hS,JaS] at hj;exact OG.dr.cell (i:=i*6+j) (by rw[Jab (ν.1 hj).1];exact hj))
   (fun j hj=>dA BR.dr (by rw[←jJ] at hj;rw[ob];omega)) (fun j hj=>BR.dr.free _) zb
 have La:=BR.dr.cells_ S ((i+1)*6) V2.drew _ (by rw[←jJ,ob];omega);rw[LA P Z (cZ x) S i a8 (bT x) (by rw[←jJ,G3];omega)] at La;have iL:P++(cZ x++S)=ah cZ (G.take i++x::G.drop i):=by rw[←hP,←hS,(p6 i).1,(p6 i).2,bY];rfl
 have qx:(P++(cZ x++S)).length=(n+1)*6:=by rw[Ε,Ε,a8,bT,←jJ];omega
 have DW:(Z.drop (6+S.length)).length=(GC - (n+1))*6:=by rw[Jaz,G3,←jJ];omega
 have HF:Hid (Ow w B 98 6 (γ (ζ ⟨g,0,ε⟩) (n+1) GC) (n+1) (ah cZ (G.take i++x::G.drop i)) (V2.drew.setCells g ((i+1)*6) S)):=qh (by
  rw[←iL];exact⟨kk (junk:=Z.drop (6+S.length)) La (by have:=hO.hi;omega) (by rw[Ε,qx,DW];omega) Y9 Dj qx,below_setCells (aN jd) (by omega) _ _,hO.lo,by rw[bJ];show B≤V2.heap.size;have:=hO.hi;omega⟩)
 have hz3:¬((i:Int)=(n:Int)):=by omega
 have ia:Jaw.wrap ((i:Int)+1)=(i:Int)+1:=by rw[JaT];omega
 have fT:Jaw.wrap ((n:Int)+1)=(n:Int)+1:=by rw[JaT];omega
 have du:Jaw.wrap ((n:Int)+1 - (i:Int))=(n:Int)+1 - (i:Int):=by rw[JaT];omega
 have cP:(0:Int)≤(i:Int)+1:=by omega
 have jm:i≤n:=by omega
 have Oz:((i:Int)+1).toNat=i+1:=by omega
 have aP:¬(GC=i+1):=by omega
 have bA:(i:Int)≤(n:Int):=by omega
 have ns:¬(n=i):=by omega
 have fP:¬(GC=i):=by omega
 have oE:(n:Int)<(n:Int)+1:=by omega
 unfold Jap at Dj;have mixed:η.follows JbG=τ:=by kernel_rfl
 subst fD;have My:∀ty dc,(Jbr #[26,26] ty #[γ (ζ ⟨g,i*6,ε⟩) (n+1 - i) dc,γ (ζ ⟨vb,0,ε⟩) 1 1]).run η (W.alloc (δ qS 98)).drew=.ok (goInt (1:Nat)) V2:=fun ty dc=>xk _ rfl ty dc
 clear xk yV;clear hO hx hW ln j9 YO SZ jJ fU zb hold a8 OW vj xe G3 N0 hZ BP AZ Lm Nc iQ ly BR OG jd kK ob La iL qx DW hP hS IM YN;go_enter Tryz.func168,Tryz.ntmps168
 go_wp2_with (first
  |(at_builtin;refine Lib.wpList_append_run _ rfl _ _ _ _ rfl _ _ rfl rfl _ _ (Tk _) ?_)
  |(at_builtin;refine wpList_copy_runI _ rfl _ _ 26 26 rfl _ _ rfl rfl (My _ _) ?_))
 go_region_law_o (refine step_copy_runI rfl _ _ 26 26 rfl _ _ (by simp[Act.eval,ξ]) (by simp[Act.eval,ξ]) (Mz _ _ _) ?_);go_wp2;go_ret;exact⟨_,_,rfl,HF.out⟩
theorem EZ {w W:ο} {B:Nat} {A:Option Κ} {n c vb i:Nat} {G:List Gn} (x:Gn) (hO:Ow w B 98 6 (γ A n c) n (ah cZ G) W) (hx:Whole W vb 98 (cZ x)) (bj:ζ vb≠(Ο A n c).ownBlock) (hn:n≤1000) (hi:i≤n):
 Ζ η 168 #[γ A n c,J (i:Int),γ (ζ ⟨vb,0,ε⟩) 1 1] W fun e w'=>∃A' c',e=.returned (γ A' (n+1) c')∧Ow w B 98 6 (γ A' (n+1) c') (n+1) (ah cZ (G.take i++x::G.drop i)) w':=by
 have pU:n≤c:=(aK hO.own).le;have Tw:G.length=n:=(aK hO.own).rlen bT (by decide);rcases JaM i n with h|h
 ·rcases JaM n c with h2|h2
  ·exact CH x hO hx bj hn h h2
  ·obtain rfl:n=c:=by omega
   exact CC x hO hx hn h
 ·obtain rfl:n=i:=by omega
  rw[Ι (by omega),Jak (by omega)];exact Ff x hO (by rw[EW];exact bg.of_whole hx rfl) hn
theorem GF (A:Option Κ) (n c:Nat) (xs:List ψ) (w:ο) (h:bg w w.heap.size 6 A n c xs) (h1:∀u∈xs,u.oneCell'=τ) (hn:n≤1000000):
 Ζ η 81 #[γ A n c] w fun e w'=>∃A' c',e=.returned (γ A' n c')∧Ow w w.heap.size 98 6 (γ A' n c') n xs w':=by
 obtain⟨i0,hi,qJ,ly,kK⟩:=aW mP;cases A with
 |none=>
  obtain⟨rfl,rfl⟩:=h.none_ rfl;have kE:xs=[]:=JaB (by simpa using h.len);subst kE;have kE:∀w',(binOp .eql 26 (γ ε 0 0) (γ ε 0 0)).run η w'=.ok (Β τ) w':=fun w'=>JbH w' _ _ _ _ _ _ _ Tryz.underlying26
  clear h h1;go_enter Tryz.func81,Tryz.ntmps81;go_wp2;go_ret;exact⟨_,_,rfl,Ow.nil_ (Θ _ _) (Δ _) (Δ _)⟩
 |some a=>
  have H:=qh (h.al (δ #[] 98));have HO:Hid (Ow w w.heap.size 98 6 (γ (ζ ⟨w.heap.size,0,ε⟩) 0 0) 0 [] (w.alloc (δ #[] 98))):=qh (Ow.new_ (cs:=#[]) (Θ _ _) (Δ _) (Δ _) (Jas _) rfl);have kE:∀w',(binOp .eql 26 (γ (ζ a) n c) (γ ε 0 0)).run η w'=.ok (Β ρ) w':=fun w'=>JbH w' _ _ _ _ _ _ _ Tryz.underlying26
  clear h;go_enter Tryz.func81,Tryz.ntmps81
  go_wp2_with (first
   |(at_builtin
     refine cC rfl (.tmp 5) (.tmp 6) _ rfl _ 98 i0 _ 6 48 Tryz.underlying26 hi qJ ly kK rfl (by decide) _ _ _ rfl (by exact HO.out) _ (ζ a) n c xs rfl (by exact H.out) h1 (by unfold Jap;omega) (by omega) ?_;intro v1 w1 fh cP tF;rw[JaI,JaF] at fh;obtain⟨Aq,cq,rfl,-⟩:=fh.rds;have nb:=qh fh;clear fh cP tF))
  go_ret;exact⟨_,_,rfl,nb.out⟩
def rq:List Gn→Gn→List Gn
 |[],x=>[x]
 |y::G,x=>if cH y x<0 then y::rq G x else if cH y x=0 then x::G else x::y::G
theorem Gj:∀(G:List Gn) (x:Gn) (i:Nat) (cf:Nat→Int),(∀t y,G[t]? =ζ y→cH y x=cf t)→i≤G.length→(∀t,t<i→cf t<0)→(∀t,i≤t→t<G.length→0≤cf t)→
 rq G x=if i<G.length∧cf i=0 then G.set i x else G.take i++x::G.drop i
 |[],x,i,cf,hc,hi,h1,h2=>by
  obtain rfl:i=0:=by simpa using hi
  rw[if_neg (fun q=>by simp at q)];rfl
 |y::G,x,i,cf,hc,hi,h1,h2=>by
  have h0:cH y x=cf 0:=hc 0 y rfl;cases i with
  |zero=>
   have h3:0≤cf 0:=h2 0 (Δ _) (by simp)
   show(if cH y x<0 then _ else _)=_
   rw[if_neg (by omega)]
   by_cases hz:cf 0=0
   ·rw[if_pos (by omega),if_pos ⟨by simp,hz⟩];rfl
   ·rw[if_neg (by omega),if_neg (fun q=>hz q.2)];rfl
  |succ i=>
   have h3:cf 0<0:=h1 0 (by omega)
   show(if cH y x<0 then _ else _)=_
   rw[if_pos (by omega),Gj G x i (fun t=>cf (t+1)) (fun t z hz=>hc (t+1) z hz) (by simpa using hi) (fun t ht=>h1 (t+1) (by omega)) (fun t h4 h5=>h2 (t+1) (by omega) (by simpa using h5))]
   by_cases hq:i<G.length∧cf (i+1)=0
   ·rw[if_pos hq,if_pos ⟨by simpa using hq.1,hq.2⟩];rfl
   ·rw[if_neg hq,if_neg (fun q=>hq ⟨by simpa using q.1,q.2⟩)];rfl
theorem jC {P:JaE} {ops:Array Oper} {Q:Exit→Act→ο→Prop} {o:Oper} {rest:List Oper} {a:Act} {w w':ο} (hd:o.dst=ε) (hw:Region.wanted o (yielded ops a.tmps)=τ) (bV:(execOp a.eval o).run P w=.ok .skip w')
 (h:wpList P ops Q rest a w'):wpList P ops Q (o::rest) a w:=by
 refine wpList_step fun K hK=>?_
 rw[if_pos hw];unfold Oper.wp;rw[bV,Oper.upon_skip,hd];exact hK _ _ h
theorem oN (A:Option Κ) (n c:Nat) (L:List D) (d:D) (w:ο) (h:bg w w.heap.size 3 A n c (aA L)) (hn:n≤9223372036854775807):
 Ζ η 33 #[γ A n c,φ #[J d.1,J d.2.1,J d.2.2]] w fun e w'=>e=.returned (J (fC L d))∧σ w.heap.size w w':=by
 have hl:=h.dlen;have HL:=qh hl;have H:=qh h;have HS:Hid (Ha w L d 0 (w.alloc (δ #[J d.1,J d.2.1,J d.2.2] 32))):=⟨fun j hj=>absurd hj (by omega),Whole.new_ w _ [J d.1,J d.2.1,J d.2.2],az _ _⟩;clear h hl;go_enter Tryz.func33,Tryz.ntmps33;go_wp2;go_loopw [5] (fun i wr=>∃k:Nat,k≤n∧i=J k∧Ha w L d k wr) (fun i _=>n - (intOf i).toNat)
 case atStart=>exact⟨0,Jas _,rfl,HS.out⟩
 case round=>
  obtain⟨k,hk,rfl,h1,h2,h3⟩:=hrel;have H1:=qh h1;have H2:=qh h2;have H3:=qh h3;clear h1 HS
  by_cases dz:k<n
  ·obtain⟨b,off,rfl,hb,hc⟩:=H.out.darts (by omega);obtain⟨c1,c2,c3⟩:=hc k (by rw[HL.out];exact dz);have d1:=(h3.cell (p:=⟨b,off+k*3,ε⟩) hb).trans c1;have d2:=(h3.cell (p:=⟨b,off+k*3+1,ε⟩) hb).trans c2;have d3:=(h3.cell (p:=⟨b,off+k*3+2,ε⟩) hb).trans c3;have b1:=h2.cell (i:=0) rfl;have b2:=h2.cell (i:=1) rfl;have b3:=h2.cell (i:=2) rfl;obtain⟨x,gx⟩:=aB (L.getD k (0,0,0));rw[gx] at d1 d2 d3;have GX:=qh gx;have hq:=iI x d;clear h2 h3 hc c1 c2 c3 gx
   by_cases hd:x=d
   ·have vt:decide (x=d)=τ:=by simpa using hd
    rw[vt] at hq;have HD:=qh hd;clear hd vt;go_wp2;go_quiet (fail);go_wp2;go_ret;exact⟨pY (by rw[Iy (by rw[HL.out];exact dz) (GX.out.trans HD.out) H1.out]),⟨H3.out.os,H3.out.tape,H3.out.output,H3.out.size,H3.out.block⟩⟩
   ·have vt:decide (x=d)=ρ:=by simpa using hd
    rw[vt] at hq;have HD:=qh hd;clear hd vt;go_wp2;go_quiet (fail);go_wp2;go_roundw
    case rel=>
     refine⟨k+1,by omega,by go_num,fun j hj=>?_,H2.out,⟨H3.out.os,H3.out.tape,H3.out.output,H3.out.size,H3.out.block⟩⟩
     rcases JaM j k with h|h
     ·exact H1.out j h
     ·obtain rfl:j=k:=by omega
      rw[GX.out];exact HD.out
    case measure=>simp[intOf];omega
  ·clear h2 h3;go_wp2;go_ret
   refine⟨pY ?_,H3.out⟩
   rw[Cr];intro j hj;exact H1.out j (by have:=HL.out;omega)
theorem JF (L:List D) (i:Nat) (h:i<L.length):(aM L).getD i (0,0,0)=L.getD ((cD L L.length+i) % L.length) (0,0,0):=by
 have hm:cD L L.length<L.length:=pN L _ (by omega);unfold aM;generalize cD L L.length=m at*;simp only[List.getD_eq_getElem?_getD];congr 1;rcases JaM (m+i) L.length with h1|h1
 ·rw[Jab (by simp;omega),JaS,JbE h1]
 ·rw[List.getElem?_append_right (by simp;omega),List.getElem?_take,Jaz,if_pos (by omega)];congr 1;rw[Nat.mod_eq_sub_mod h1,JbE (by omega)];omega
theorem EG (L:List D) (k:Nat) (h:k<L.length):L.take (k+1)=L.take k++[L.getD k (0,0,0)]:=by
 rw[JaQ h];simp[h]
theorem El (A:Option Κ) (n c:Nat) (L:List D) (w:ο) (h:bg w w.heap.size 3 A n c (aA L)) (hn:n≤5864062014634):
 Ζ η 79 #[γ A n c] w (UO w (aM L)):=by
 obtain⟨i0,hi,qJ,ly,kK⟩:=info_parts zv;have HR:=qh h;have hl:=h.dlen;subst hl;clear h;go_enter Tryz.func79,Tryz.ntmps79;go_wp2;go_loopw [3,4] (fun lv i wr=>∃k:Nat,k≤L.length∧i=J k∧lv=J (cD L k:Int)∧σ w.heap.size w wr) (fun _ i _=>L.length - (intOf i).toNat)
 case atStart=>exact⟨0,Jas _,rfl,rfl,Θ _ _⟩
 case round=>
  obtain⟨k2,rC,rfl,rfl,bC⟩:=hrel;have nf:=qh bC
  by_cases RM:k2<L.length
  ·obtain⟨b,off,rfl,hb,hc⟩:=(HR.out.up bC bC.size).darts (by omega);obtain⟨d1,d2,d3⟩:=hc k2 RM;have GV:=mU L k2;have Mg:cD L k2<L.length:=by omega
   obtain⟨e1,e2,e3⟩:=hc (cD L k2) Mg;have hs:cD L (k2+1)=if pA (L.getD k2 (0,0,0)) (L.getD (cD L k2) (0,0,0))<0 then k2 else cD L k2:=rfl
   obtain⟨m,gm⟩:=aB (cD L k2);rw[gm] at e1 e2 e3 GV Mg hs ⊢;obtain⟨x,gx⟩:=aB (L.getD k2 (0,0,0));obtain⟨y,gy⟩:=aB (L.getD m (0,0,0));rw[gx] at d1 d2 d3 hs;rw[gy] at e1 e2 e3 hs;have HOr:=oU x.1 x.2.1 x.2.2 y.1 y.2.1 y.2.2;have ho:jS x.1 x.2.1 x.2.2 y.1 y.2.1 y.2.2=pA x y:=rfl;obtain⟨ov,tJ⟩:=aB (pA x y);rw[ho,tJ] at HOr;rw[tJ] at hs;have Lp:=qh HOr;have HS:=qh hs;clear hc gm gx gy ho tJ HOr hs;go_upto_region 5 with fail
   have g0:=cz d1;have g1:=cz d2;have g2:=cz d3;have g3:=cz e1;have g4:=cz e2;have g5:=cz e3;have hE:Hid (σ w.heap.size w wr.drew):=nf.out.drew;clear bC
   by_cases ho:ov<0
   ·rw[if_pos ho] at HS;refine ay (aO) (by kernel_rfl) ?_;refine aa 0 ?_;refine aa 1 ?_;refine aa 2 ?_;refine aa 3 ?_;refine aa 4 ?_;refine aa 5 ?_;refine aa 6 ?_;refine aa 7 ?_;refine cV 8 (hy:=by apply bP;rfl;rotate_left;intro w' aC;exact Lp.out w';intro w';go_simp) (h:=?_);refine aa 9 ?_;refine aF (by kernel_rfl) ?_ _;intro w' aC;have DV:Hid (σ w.heap.size w w'):=hE.out.trans (aC.mono hE.out.size);clear g0 g1 g2 g3 g4 g5 aC d1 d2 d3 e1 e2 e3;go_wp2;go_roundw
    case rel=>exact⟨k2+1,by omega,by go_num,by rw[HS.out],DV.out⟩
    case measure=>simp[intOf];omega
   ·rw[if_neg ho] at HS;refine ay (aO) (by kernel_rfl) ?_;refine aa 0 ?_;refine aa 1 ?_;refine aa 2 ?_;refine aa 3 ?_;refine aa 4 ?_;refine aa 5 ?_;refine aa 6 ?_;refine aa 7 ?_;refine cV 8 (hy:=by apply bP;rfl;rotate_left;intro w' aC;exact Lp.out w';intro w';go_simp) (h:=?_);refine aa 9 ?_;refine aF (by kernel_rfl) ?_ _;intro w' aC;have DV:Hid (σ w.heap.size w w'):=hE.out.trans (aC.mono hE.out.size);clear g0 g1 g2 g3 g4 g5 aC d1 d2 d3 e1 e2 e3;go_wp2;go_roundw
    case rel=>exact⟨k2+1,by omega,by go_num,by rw[HS.out],DV.out⟩
    case measure=>simp[intOf];omega
  ·have hkl:k2=L.length:=by omega
   subst hkl;have GV:=mU L L.length;have ht:=JF L;have hlen:=kB L;obtain⟨R,gR⟩:=aB (aM L);obtain⟨m,gm⟩:=aB (cD L L.length);rw[gm,gR] at ht;rw[gR] at hlen;rw[gm] at GV ⊢;have GR:=qh gR;have HT:=qh ht;have Zd:=qh hlen;clear ht gm gR hlen;obtain⟨W1,rfl⟩:∃x:ο,x=wr:=⟨_,rfl⟩
   have HO:Hid (Ow w w.heap.size 32 3 (γ (ζ ⟨W1.heap.size,0,ε⟩) 0 0) 0 [] (W1.alloc (δ #[] 32))):=Ow.new_ (cs:=#[]) nf.out (Δ _) nf.out.size (Jas _) rfl;clear bC;go_wp2;go_loopw [5,6] (fun v i wr=>∃k:Nat,k≤L.length∧i=J k∧Ow w w.heap.size 32 3 v (R.take k).length (aA (R.take k)) wr) (fun _ i _=>L.length - (intOf i).toNat)
   case atStart=>exact⟨0,Jas _,rfl,HO.out⟩
   case round=>
    clear HO;obtain⟨k,hk,rfl,iC⟩:=hrel;have HO:=qh iC
    by_cases dz:k<L.length
    ·obtain⟨b,off,rfl,hb,hc⟩:=(HR.out.up iC.below iC.below.size).darts (by omega);have hj:(m+k) % L.length<L.length:=Nat.mod_lt _ (by omega);have Fq:((m:Int)+(k:Int)) % (L.length:Int)=(((m+k) % L.length:Nat):Int):=by rw[Int.natCast_emod,Int.natCast_add]
     have hx:=HT.out k dz;obtain⟨j,gj⟩:=aB ((m+k) % L.length);rw[gj] at hj Fq hx;obtain⟨c1,c2,c3⟩:=hc j hj;obtain⟨x,gx⟩:=aB (L.getD j (0,0,0));rw[gx] at c1 c2 c3 hx;have HX:=qh hx;have Yi:=qh (EG R k (by rw[Zd.out];exact dz))
     have hlk:(R.take k).length≤5864062014634:=by
      have:=List.length_take_le k R
      omega
     clear hc iC gj gx hx
     go_wp2_with (first
      |(at_builtin
        refine oQ rfl (.tmp 31) (.tmp 41) _ rfl _ 32 i0 _ 3 24 Tryz.underlying57 hi qJ ly kK rfl (by decide) _ _ _ rfl (by exact HO.out.up (az _ _)) _ (ζ ⟨wr.heap.size,0,ε⟩) 1 1 (aA [x]) rfl (by exact bg.whole3 (L:=[x]) (Whole.new_ _ _ _)) (im [x]) (by unfold Jap;omega) (by omega) ?_;intro v1 w1 fh cP;have nb:=qh fh;clear fh cP))
     go_roundw
     case rel=>
      refine⟨k+1,by omega,by go_num,?_⟩
      rw[Yi.out,HX.out,Ε,fM];exact nb.out
     case measure=>simp[intOf];omega
    ·have YX:R.take k=R:=Ι (by rw[Zd.out];omega);rw[YX] at HO;clear iC YX;obtain⟨A1,c1,hv,GS⟩:=HO.out.rds;subst hv;have lR:=qh GS;clear GS;go_wp2;go_ret;rw[GR.out];exact⟨A1,c1,rfl,lR.out,HO.out.below⟩
def ja (L:List D) (a d:D):List D:=if d∈L then L else L.take ((max (fC L a) 0).toNat+1)++d::L.drop ((max (fC L a) 0).toNat+1)
theorem j3 {L:List D} {d:D} (h:d∈L):fC L d=(L.idxOf d:Int)∧L.idxOf d<L.length:=⟨by rw[fC,if_pos h],List.idxOf_lt_length_of_mem h⟩
theorem lK {L:List D} {d:D} (h:¬d∈L):fC L d= -1:=by rw[fC,if_neg h]
theorem PO (L:List D) (d:D):-1≤fC L d∧fC L d<L.length+1∧(0≤fC L d↔d∈L)∧(0<L.length→fC L d<L.length):=by
 by_cases h:d∈L
 ·obtain⟨e1,e2⟩:=j3 h;rw[e1]
  refine⟨by omega,by omega,⟨fun _=>h,fun _=>by omega⟩,fun _=>by omega⟩
 ·rw[lK h]
  refine⟨by omega,by omega,⟨fun h'=>absurd h' (by omega),fun h'=>absurd h' h⟩,fun _=>by omega⟩
def kt (L:List D) (d:D):List D:=L.filter fun x=>decide (x≠d)
def uh (L:List D) (d:D) (p:Nat):D:=if d∈L then L.getD ((L.idxOf d+p) % L.length) (0,0,0) else(0,0,0)
def kT (L:List D) (d:D):D:=uh L d (L.length - 1)
def jy (L:List D) (d:D):List D:=if d∈L then L.take (L.idxOf d)++L.drop (L.idxOf d+1) else L
def j4 (L:List D) (o d:D):List D:=if o∈L∧¬d∈L then L.take (L.idxOf o)++d::L.drop (L.idxOf o+1) else L
end Go.Proofs.YtpdpbfmiahjiiaaGreat
