/- Several texts in one. -/
import Derived.Test.YtpdpbfmiahjiiaaGreatPzA
import Derived.Test.YtpdpbfmiahjiiaaGreatPzB
import Derived.Test.YtpdpbfmiahjiiaaGreatPzE
import Derived.Maps.OwnSet
import Derived.Laws.MakeOwn
import Derived.Laws.OwnMore
import Derived.Maps.AppendAt
import Derived.Below
import Derived.Carry
import Derived.Deep.Slices
import Derived.KernelRfl
import Derived.OpenShut
import Derived.ProofKit
import Derived.Test.YtpdpbfmiahjiiaaGreatProg
import Derived.WideKeyArgs
import Derived.SizedLaws
set_option linter.unusedSectionVars false
set_option linter.unusedSimpArgs false
set_option linter.unusedVariables false
set_option maxRecDepth 100000
set_option maxHeartbeats 16000000
namespace Go.Proofs.YtpdpbfmiahjiiaaGreat
open Go.RowKit
open _root_.Go.Value renaming slice→γ,string→μ,pointer→υ,agg→φ,bool→Β,tuple→Ξ,slice→Ο,oneCell'→Τ
open _root_.Go.Obj renaming cells→δ
open _root_.Option renaming none→ε,some→ζ,some→Jae
open _root_.Go.Proofs.Tryz renaming prog→η
open _root_.List renaming getElem?_eq_getElem→θ,map_cons→ι,getElem?_eq_some_iff→ν,map_nil→π,getD_eq_getElem?_getD→χ,mem_of_getElem?→ω,mem_map→Α,length_append→Ε,mem_cons→Η,take_of_length_le→Ι,length_map→Ρ,all_eq_true→Φ,drop_eq_getElem_cons→Χ,getElem?_map→Ψ,range→Ω,getElem?_append_left→Jab,mem_cons_of_mem→Jad,mem_cons_self→Jai,getElem?_append_right→Jal,mem_append→Jan,mem_singleton→Jao,drop_eq_nil_of_le→Jav,mem_filter→JaC,length_cons→JaH,take_succ_eq_append_getElem→JaQ,map_append→JaU,append_nil→Jbi,filter_cons→Jbm,getElem?_set→Jbz,replicate→JbN
open _root_.Go.Act renaming put→ξ
open _root_.Go renaming World→ο,Value→ψ,Calls→Ζ,Addr→Κ,TypeId→Υ,wp_region_lit→Jam,maxLen→Jap,Program→JaE,execOp→JaX,Oper→JaZ,Operand→Jbd,getD_set_ne→Jbq,wpList→JbI
open _root_.Bool renaming false→ρ,true→τ,and_eq_true→Jar
open _root_.Go.RowKit renaming Below→σ
open _root_.Nat renaming le_refl→Δ,le_trans→Λ,add_zero→Jac,zero_add→JaI,lt_of_lt_of_le→JaK,lt_or_ge→JaM,sub_self→JaP
open _root_.Go.RowKit.Below renaming refl→Θ
open _root_.Option.some renaming inj→Μ
open _root_.Go.Addr renaming add_lit→Ν
open _root_.Go.Region renaming ready→Jaq,Mode→Jbj
open _root_.Go.IntKind renaming i64→Jaw
open _root_.Array renaming getD→JaD,replicate→Jbe
open _root_.Go.Builtin renaming append_→JaY
open _root_.Int renaming toNat_natCast→Jbn
open _root_.Go.Result renaming andThen→Jbw
section
open Go.RowKit Go.Maps
def RVv (v:Value):Option (DataW Value × List MemPlace):=some (.held v,[])
structure FW (P:Program) (K:TypeId) (κ:Type) where
 enc:κ→Value
 kl:κ→Lit
 wf:κ→Prop
 keyed:Keyed P K
 key:∀x,wf x→keyOf P K (enc x)=some (kl x)
 inj:∀x y,wf x→wf y→kl x=kl y→x=y
 lit:∀x,wf x→WideAt.IsKeyLit (kl x)
section
variable {P:Program} {t K e:TypeId} {κ:Type} [DecidableEq κ] {k:FW P K κ} {b n:Nat} {f:κ→Option Value} {w w':World} {x:κ}
def de (w:World) (k:FW P K κ) (b n:Nat) (f:κ→Option Value):Prop:=
 ∃D:DataW Value,w.ownsMap P K RVv b n D∧∀x,k.wf x→has D (k.kl x)=(f x).isSome∧∀z,D.atKey (k.kl x) (.held z)=.held ((f x).getD z)
theorem de.lt (h:de w k b n f):b<w.heap.size:=let⟨_,h1,_⟩:=h;World.ownsMap.lt h1
theorem de.mono {n':Nat} (h:de w k b n f) (hn:n≤n'):de w k b n' f:=let⟨D,h1,h2⟩:=h;⟨D,World.ownsMap.mono h1 hn,h2⟩
theorem de.kept {S:Nat→Prop} (h:de w k b n f) (hk:Kept S w w') (hb:¬S b):de w' k b n f:=by
 obtain⟨D,h0,h2⟩:=h;have dz:=World.ownsMap.lt h0;obtain⟨es,clock,h1,F,hs,hD⟩:=h0;exact⟨D,⟨es,clock,(hk.block b dz hb).trans h1,F,hs,hD⟩,h2⟩
theorem de.bl (h:de w k b n f) (hb:Below w.heap.size w w'):de w' k b n f:=h.kept (Kept.of_below (S:=fun _=>False) hb) (fun e=>e)
theorem de.al (h:de w k b n f) (o:Obj):de (w.alloc o) k b n f:=h.bl ((Below.refl _ w).alloc (Nat.le_refl _) o)
theorem de.dr (h:de w k b n f):de w.drew k b n f:=h.bl ((Below.refl _ _).drew)
theorem de.grown {r:Option Nat} (h:de w k b n f) (hg:w.grownBy w' r) (hr:some b≠r):de w' k b n f:=
 h.kept (S:=fun i=>some i=r) ⟨hg.os,hg.tape,hg.output,hg.size,fun i hi hn=>hg.block i hi hn⟩ hr
theorem de.made:de (w.alloc (.map #[] 0)) k w.heap.size 0 (fun _=>none):=
 ⟨.map [],World.ownsMap_made _ _ _ _,fun x hx=>⟨by simp[has],fun z=>WideAt.atKey_none (.held z) (fun p hp=>by cases hp)⟩⟩
theorem de.look (h:de w k b n f) (ht:P.underlying t=some (.map K e)) {z:Value} (hz:(zeroValue e).run P w=.ok z w) (hx:k.wf x):
 (Instr.lookup t (.map (some b)) (k.enc x) true).run P w=.ok (.tuple #[(f x).getD z,.bool (f x).isSome]) w:=by
 obtain⟨D,h1,h2⟩:=h;obtain⟨v,ps,bV,hv⟩:=World.ownsMap.look_ok h1 k.keyed ht hz (zd:=.held z) (zp:=[]) rfl (k.key x hx);obtain⟨h3,h4⟩:=h2 x hx;have h5:=(Prod.mk.inj (Option.some.inj hv)).1;rw[h4 z] at h5;injection h5 with h5
 rw[bV,h3,←h5]
theorem de.put (h:de w k b n f) (ht:P.underlying t=some (.map K e)) (hn:n<maxLen) (hx:k.wf x) (v:Value):
 ∃w',(Instr.mapUpdate t (.map (some b)) (k.enc x) v).run P w=.ok () w'∧de w' k b (n+1) (fun y=>if y=x then some v else f y)∧w.grownBy w' (some b):=by
 obtain⟨D,h1,h2⟩:=h;obtain⟨w',h3,h4,h5⟩:=World.ownsMap.store h1 k.keyed ht hn (k.key x hx) (d:=.held v) (ps:=[]) rfl
 refine⟨w',h3,⟨_,h4,fun y hy=>?_⟩,h5.grown⟩
 by_cases e:y=x
 ·subst e;simp only[if_pos,Option.isSome_some,Option.getD_some];exact⟨has_put_same (World.ownsMap.isMap h1) (k.lit y hx) _,fun z=>atKey_put_same (World.ownsMap.isMap h1) (k.lit y hx) _ _⟩
 ·simp only[if_neg e];rw[has_put_other (fun q=>e (k.inj _ _ hy hx q))];exact⟨(h2 y hy).1,fun z=>by rw[atKey_put_other (fun q=>e (k.inj _ _ hy hx q))];exact(h2 y hy).2 z⟩
end
theorem oZ {P:Program} {ev:Operand→Value} {o:Oper} {w w':World} {t:TypeId} {m x v:Operand} {key val:Value} {b:Option Nat} (ho:o.op=.mapUpdate t m x v) (hm:ev m=.map b) (hx:ev x=key) (hv:ev v=val)
 (bV:(Instr.mapUpdate t (.map b) key val).run P w=.ok () w'):(execOp ev o).run P w=.ok .skip w':=by
 simp[execOp,ho,hm,hx,hv,bV,Result.andThen]
theorem nj {P:Program} {ev:Operand→Value} {o:Oper} {w w':World} {t:TypeId} {m x:Operand} {key v:Value} {b:Option Nat} (ho:o.op=.lookup t m x true) (hm:ev m=.map b) (hx:ev x=key)
 (bV:(Instr.lookup t (.map b) key true).run P w=.ok v w'):(execOp ev o).run P w=.ok (.value v) w':=by
 simp[execOp,ho,hm,hx,bV,Result.andThen]
section
variable {P:Program} {t K e:TypeId} {κ:Type} [DecidableEq κ] {k:FW P K κ} {b n:Nat} {f:κ→Option Value} {w:World} {x:κ} {ops:Array Oper} {rest:List Oper} {o:Oper} {a:Act} {Q:Exit→Act→World→Prop}
theorem jE (hg:o.guard=none) (m y:Operand) (ho:o.op=.lookup t m y true) (hm:a.eval m=.map (some b)) (h:de w k b n f) (ht:P.underlying t=some (.map K e)) {z:Value} (hz:(zeroValue e).run P w=.ok z w) (hx:k.wf x)
 (hy:a.eval y=k.enc x) (hK:wpList P ops Q rest (a.put o.dst (.tuple #[(f x).getD z,.bool (f x).isSome])) w):wpList P ops Q (o::rest) a w:=by
 refine wpList_plain hg fun K' Wt=>?_
 unfold Oper.wp;rw[nj ho hm hy (h.look ht hz hx)];exact Wt _ _ hK
theorem zq (hg:o.guard=none) (m y v:Operand) (ho:o.op=.mapUpdate t m y v) (hm:a.eval m=.map (some b)) (h:de w k b n f) (ht:P.underlying t=some (.map K e)) (hn:n<maxLen) (hx:k.wf x)
 (hy:a.eval y=k.enc x) {u:Value} (hv:a.eval v=u) (hK:∀w',de w' k b (n+1) (fun y=>if y=x then some u else f y)→w.grownBy w' (some b)→wpList P ops Q rest (a.put o.dst undef) w'):wpList P ops Q (o::rest) a w:=by
 refine wpList_plain hg fun K' Wt=>?_
 obtain⟨w',h1,h2,h3⟩:=h.put ht hn hx u;unfold Oper.wp;rw[oZ ho hm hy hv h1];exact Wt _ _ (hK w' h2 h3)
end
end
section
open Go.RowKit Go.Maps
def RT:FW Tryz.prog 32 D where
 enc d:=.agg #[.int .i64 d.1,.int .i64 d.2.1,.int .i64 d.2.2]
 kl:=kD
 wf:=su
 keyed:=nt
 key:=pt
 inj _ _:=zR
 lit _:=wx
abbrev I2:=Int × Int
def P8 (d:I2):Prop:=(Lit.int .i64 d.1).wf=true∧(Lit.int .i64 d.2).wf=true
def kI (d:I2):Lit:=.string (keyBytes [.int .i64 d.1,.int .i64 d.2])
theorem Rv:(match Tryz.prog.underlying 30 with|some (.array _ _)|some (.struct _)=>true|_=>false)=true:=by rw[Tryz.underlying30]
theorem Vi:WideMaps.KeyLaw Tryz.prog 30:=deep_law_laid zI (m:=2) (by omega) (by show 30<Tryz.prog.types.size;decide) (by kernel_rfl) Rv
theorem xB:Keyed Tryz.prog 30:=Keyed.of_law Vi
theorem RO (m:Nat) (d:I2) (h:P8 d):Tryz.prog.keyLits (m+2) 30 [.int .i64 d.1,.int .i64 d.2]=some [.int .i64 d.1,.int .i64 d.2]:=by
 obtain⟨h1,h2⟩:=h;have c2:Tryz.prog.cellsOf 30=2:=by kernel_rfl
 have c3:Tryz.prog.cellsOf 3=1:=by kernel_rfl
 have i1:∀(n:Nat) (x:Int),(Lit.int .i64 x).wf=true→Tryz.prog.keyLits (n+1) 3 [.int .i64 x]=some [.int .i64 x]:=fun n x hx=>by simp[Program.keyLits,Tryz.underlying3,hx]
 unfold Program.keyLits;simp only[Tryz.underlying30,c2];rw[if_pos ⟨rfl,by kernel_rfl⟩];simp[c3,i1,h1,h2]
theorem AF (d:I2) (h:P8 d):keyOf Tryz.prog 30 (.agg #[.int .i64 d.1,.int .i64 d.2])=some (kI d):=by
 have hk:Tryz.prog.keyType 30=true:=by kernel_rfl
 have c1:Tryz.prog.cellsOf 30=2:=by kernel_rfl
 have hf:(Value.agg #[.int .i64 d.1,.int .i64 d.2]).formed Tryz.prog 30=true:=by simp[Value.formed,Tryz.underlying30,c1]
 obtain⟨m,hm⟩:∃m,Tryz.prog.types.size+1=m+2:=⟨Tryz.prog.types.size - 1,by kernel_rfl⟩
 have hl:=RO m d h;rw[←hm] at hl;unfold keyOf;simp only[Tryz.underlying30,hk,hf,Value.cells,Bool.and_self,if_true];rw[hl];rfl
theorem Vu {a b:I2} (ha:P8 a) (hb:P8 b) (h:kI a=kI b):a=b:=by
 have:=xB.inj (AF a ha) (by rw[h];exact AF b hb)
 simp at this;exact Prod.ext this.1 this.2
def Nf:FW Tryz.prog 30 I2 where
 enc d:=.agg #[.int .i64 d.1,.int .i64 d.2]
 kl:=kI
 wf:=P8
 keyed:=xB
 key:=AF
 inj _ _:=Vu
 lit _ h:=xB.key (AF _ h)
theorem kO (w:World):(zeroValue 3).run Tryz.prog w=.ok (.int .i64 0) w:=by
 obtain⟨i,hi,hz⟩:∃i,Tryz.prog.info? 3=some i∧i.zero=some (.int .i64 0):=by
  have h:(Tryz.prog.info? 3).map (·.zero)=some (some (.int .i64 0)):=by kernel_rfl
  cases h2:Tryz.prog.info? 3 with
  |none=>rw[h2] at h;cases h
  |some i=>rw[h2] at h;exact⟨i,rfl,by simpa using h⟩
 simp[zeroValue,typeInfo,hi,hz]
end
section
open Go.RowKit Go.Maps
def dV (d:D):ψ:=φ #[J d.1,J d.2.1,J d.2.2]
def cA (w:ο) (b n:Nat) (f:D→Option ψ) (S:List D):Prop:=
 ∃Dt:DataW ψ,w.ownsMap η 32 RVv b n Dt∧(∀x,su x→has Dt (kD x)=(f x).isSome∧∀z,Dt.atKey (kD x) (.held z)=.held ((f x).getD z))∧FH Dt S
section
variable {b n:Nat} {f:D→Option ψ} {S:List D} {w w':ο} {x:D} {t e:Υ}
theorem cA.lt (h:cA w b n f S):b<w.heap.size:=let⟨_,h1,_⟩:=h;World.ownsMap.lt h1
theorem cA.mono {n':Nat} (h:cA w b n f S) (hn:n≤n'):cA w b n' f S:=let⟨D,h1,h2⟩:=h;⟨D,World.ownsMap.mono h1 hn,h2⟩
theorem cA.at_ (h:cA w b n f S) (hb:w'.heap[b]? =w.heap[b]?):cA w' b n f S:=by
 obtain⟨D,⟨es,clock,h1,F,hs,hD⟩,h2⟩:=h;exact⟨D,⟨es,clock,hb.trans h1,F,hs,hD⟩,h2⟩
theorem cA.kept {S':Nat→Prop} (h:cA w b n f S) (hk:Kept S' w w') (hb:¬S' b):cA w' b n f S:=h.at_ (hk.block b h.lt hb)
theorem cA.bl (h:cA w b n f S) (hb:σ w.heap.size w w'):cA w' b n f S:=h.kept (Kept.of_below (S:=fun _=>False) hb) (fun e=>e)
theorem cA.al (h:cA w b n f S) (o:Obj):cA (w.alloc o) b n f S:=h.bl ((Θ _ w).alloc (Δ _) o)
theorem cA.dr (h:cA w b n f S):cA w.drew b n f S:=h.bl ((Θ _ _).drew)
theorem cA.grown {r:Option Nat} (h:cA w b n f S) (hg:w.grownBy w' r) (hr:ζ b≠r):cA w' b n f S:=h.at_ (hg.block b h.lt hr)
theorem cA.made:cA (w.alloc (.map #[] 0)) w.heap.size 0 (fun _=>ε) []:=
 ⟨.map [],World.ownsMap_made _ _ _ _,fun x hx=>⟨by simp[has],fun z=>WideAt.atKey_none (.held z) (fun p hp=>by cases hp)⟩,FH.empty⟩
theorem cA.mapF (h:cA w b n f S):de w RT b n f:=let⟨D,h1,h2,_⟩:=h;⟨D,h1,h2⟩
theorem cA.keys (h:cA w b n f S) (hx:su x):x∈S↔(f x).isSome=τ:=by
 obtain⟨Dt,h1,h2,h3⟩:=h;rw[←(h2 x hx).1,h3.has x hx,decide_eq_true_eq]
theorem cA.wf (h:cA w b n f S):∀d∈S,su d:=let⟨_,_,_,h3⟩:=h;h3.wf
theorem cA.nd (h:cA w b n f S):S.Nodup:=let⟨_,_,_,h3⟩:=h;h3.nd
theorem cA.put (h:cA w b n f S) (ht:η.underlying t=ζ (.map 32 e)) (hn:n<Jap) (hx:su x) (v:ψ):
 ∃w',(Instr.mapUpdate t (.map (ζ b)) (dV x) v).run η w=.ok () w'∧cA w' b (n+1) (fun y=>if y=x then ζ v else f y) (oB x S)∧w.grownBy w' (ζ b):=by
 obtain⟨Dt,h1,h2,h3⟩:=h;obtain⟨w',r3,r4,r5⟩:=World.ownsMap.store h1 nt ht hn (pt x hx) (d:=.held v) (ps:=[]) rfl
 refine⟨w',r3,⟨_,r4,fun y hy=>?_,h3.put x hx _⟩,r5.grown⟩
 by_cases e:y=x
 ·subst e;simp only[if_pos,Option.isSome_some,Option.getD_some];exact⟨has_put_same (World.ownsMap.isMap h1) (wx hy) _,fun z=>atKey_put_same (World.ownsMap.isMap h1) (wx hy) _ _⟩
 ·simp only[if_neg e];rw[has_put_other (fun q=>e (zR hy hx q))];exact⟨(h2 y hy).1,fun z=>by rw[atKey_put_other (fun q=>e (zR hy hx q))];exact(h2 y hy).2 z⟩
variable {ops:Array JaZ} {rest:List JaZ} {o:JaZ} {a:Act} {Q:Exit→Act→ο→Prop}
theorem QG (hg:o.guard=ε) (m:Jbd) (hop:o.op=Op.call {callee:=Callee.builtin Builtin.len,args:=#[m],argTypes:=#[t]}) (ht:η.underlying t=ζ (.map 32 e)) (hm:a.eval m=.map (ζ b)) (hS:cA w b n f S)
 (hK:JbI η ops Q rest (a.put o.dst (J (S.length:Int))) w):JbI η ops Q (o::rest) a w:=by
 obtain⟨Dt,h1,h2,h3⟩:=hS;refine wpList_len_own w hg m t hop 32 e ht RVv b n Dt hm h1 ?_;rw[h3.size];exact hK
end
end
def n1 (x:Int):List ψ:=[J x]
theorem nW (x:Int):(n1 x).length=1:=rfl
def cR (L:List Int) (a b:Int):List Int:=L.map fun x=>if x=a∨x=b then min a b else x
theorem IU {L:List Int} {a b x:Int} {j:Nat} (h:L[j]? =ζ x):(cR (L.take j) a b++L.drop j).set j (if x=a∨x=b then min a b else x)=cR (L.take (j+1)) a b++L.drop (j+1):=by
 obtain⟨hj,e⟩:=ν.1 h;have hl:(cR (L.take j) a b).length=j:=by simp[cR];omega
 rw[List.set_append_right _ _ (by omega),hl,JaP,Χ hj,e,List.set_cons_zero,JaQ hj,e];simp[cR]
theorem Kk {L:List Int} {a b x:Int} {j:Nat} (h:L[j]? =ζ x) (hx:¬(x=a∨x=b)):cR (L.take j) a b++L.drop j=cR (L.take (j+1)) a b++L.drop (j+1):=by
 obtain⟨hj,e⟩:=ν.1 h;rw[Χ hj,e,JaQ hj,e];simp[cR,hx]
theorem Qc {L:List Int} {a b x:Int} {j:Nat} (h:L[j]? =ζ x):(cR (L.take j) a b++L.drop j)[j]? =ζ x:=by
 obtain⟨hj,e⟩:=ν.1 h;have hl:(cR (L.take j) a b).length=j:=by simp[cR];omega
 rw[Jal (by omega),hl,JaP,List.getElem?_drop,Jac];exact h
theorem Mb (g n c:Nat) (L:List Int) (a b:Int) (lo:Nat) (w:ο) (h:w.ownsRow lo 3 1 (γ (ζ ⟨g,0,ε⟩) n c) n (ah n1 L)) (hn:n≤1000000) (hl:L.length=n):
 Ζ η 192 #[γ (ζ ⟨g,0,ε⟩) n c,J a,J b] w fun e w'=>e=.returned (Ξ #[])∧w'.ownsRow lo 3 1 (γ (ζ ⟨g,0,ε⟩) n c) n (ah n1 (cR L a b))∧Kept (fun i=>i=g) w w':=by
 have H:=qh h;have Hl:=qh hl;obtain⟨mn,gmn⟩:=aB (min a b);have HM:=qh gmn;clear h hl;go_enter Tryz.func192,Tryz.ntmps192;go_wp2;go_loopw [10] (fun si wr=>∃j:Nat,j≤n∧si=J j∧Hid (wr.ownsRow lo 3 1 (γ (ζ ⟨g,0,ε⟩) n c) n (ah n1 (cR (L.take j) a b++L.drop j)))∧Hid (Kept (fun i=>i=g) w wr)) (fun si _=>n - (intOf si).toNat)
 case atStart=>exact⟨0,by omega,rfl,qh (by simpa [cR] using H.out),qh (Kept.refl _ _)⟩
 case round=>
  clear H;obtain⟨j,hj,rfl,HO,HK⟩:=hrel;obtain⟨wo,cS⟩:=aB wr;rw[cS] at HO HK ⊢;clear cS
  by_cases nT:j<n
  ·obtain⟨x,hx⟩:∃x,L[j]? =ζ x:=⟨_,θ (by have:=Hl.out;omega)⟩
   obtain⟨g2,junk,e,fw,hw,hc,hf,ho⟩:=eZ (i:=0) (y:=mn) (u:=J mn) nW HO.out (Qc (a:=a) (b:=b) hx) nT (by omega) rfl
   obtain rfl:g=g2:=by
    injection e with e
    injection e
   have ZD:wo.cell? ⟨g,j,ε⟩=ζ (J x):=by have:=hc.trans (show(n1 x)[0]? =ζ (J x) from rfl);simpa using this
   have hf0:wo.frozen? ⟨g,j,ε⟩=ρ:=by simpa using hf
   have HN:Hid ((x=a∨x=b)→(wo.setCell ⟨g,j,ε⟩ (J mn)).ownsRow lo 3 1 (γ (ζ ⟨g,0,ε⟩) n c) n (ah n1 (cR (L.take (j+1)) a b++L.drop (j+1)))):=qh (fun hor=>by
    have h1:=ho;rw[show(j*1+0:Nat)=j by omega] at h1;have h2:=IU (a:=a) (b:=b) hx;rw[if_pos hor,HM.out] at h2;rw[h2] at h1;exact h1)
   have HS:Hid (¬(x=a∨x=b)→cR (L.take j) a b++L.drop j=cR (L.take (j+1)) a b++L.drop (j+1)):=qh (fun h=>Kk hx h);have jG:Hid (Kept (fun i=>i=g) w (wo.setCell ⟨g,j,ε⟩ (J mn))):=qh (HK.out.trans (di (S:=fun i=>i=g) rfl j [J mn]));clear hx e fw hw hc hf ho
   by_cases ha:x=a
   ·subst ha;have Ed:=qh (HN.out (.inl rfl));have ha1:((x:Int)==x)=τ:=by simp
    clear HN HS HK HO;go_wp2;go_roundw
    case rel=>exact⟨j+1,by omega,by go_num,Ed,jG⟩
    case measure=>simp[intOf];omega
   ·have ha1:(x==a)=ρ:=beq_eq_false_iff_ne.2 ha
    by_cases hb:x=b
    ·subst hb;have Ed:=qh (HN.out (.inr rfl));have cP:((x:Int)==x)=τ:=by simp
     clear HN HS HK HO;go_wp2;go_roundw
     case rel=>exact⟨j+1,by omega,by go_num,Ed,jG⟩
     case measure=>simp[intOf];omega
    ·have cP:(x==b)=ρ:=beq_eq_false_iff_ne.2 hb;have nb:Hid (wo.ownsRow lo 3 1 (γ (ζ ⟨g,0,ε⟩) n c) n (ah n1 (cR (L.take (j+1)) a b++L.drop (j+1)))):=qh (by rw[←HS.out (by omega)];exact HO.out);clear HN HS HO jG;go_wp2;go_roundw
     case rel=>exact⟨j+1,by omega,by go_num,nb,HK⟩
     case measure=>simp[intOf];omega
  ·obtain rfl:n=j:=by omega
   go_wp2;go_end0
   refine⟨rfl,?_,HK.out⟩
   have h1:=HO.out;rw[Ι (by have:=Hl.out;omega),Jav (by have:=Hl.out;omega),Jbi] at h1;exact h1
section
variable {P:JaE} {ops:Array JaZ} {Q:Exit→Act→ο→Prop} {md:Jbj}
def o5 (md:Jbj) (ops:Array JaZ) (i:Nat):List Nat:=match ops[i]? with|some o=>dB md o|none=>[]
def zP (md:Jbj) (ops:Array JaZ):Nat→List Nat→List Nat
 |0,l=>l
 |m+1,l=>zP md ops m (l++l.flatMap (o5 md ops))
def Od (md:Jbj) (ops:Array JaZ) (n m:Nat):Bool:=(Ω ops.size).all fun k=>decide (k<n)||(Ω n).all fun j=>(zP md ops m (o5 md ops k)).contains j
theorem zg {af:Array Bool} (ln:∀i,af.getD i ρ=τ→∀j∈o5 md ops i,af.getD j ρ=τ):∀(m:Nat) (l:List Nat),(∀j∈l,af.getD j ρ=τ)→∀j∈zP md ops m l,af.getD j ρ=τ
 |0,_,h=>h
 |m+1,l,h=>zg ln m _ (fun j hj=>by
  rcases Jan.1 hj with hj|hj
  ·exact h j hj
  ·obtain⟨i,hi,ur⟩:=List.mem_flatMap.1 hj;exact ln i (h i hi) j ur)
theorem E2 {n m k:Nat} (h:Od md ops n m=τ) (hk:n≤k) (U3:k<ops.size):∀j,j<n→j∈zP md ops m (o5 md ops k):=by
 intro j hj;have h1:=Φ.1 h k (by simp[U3]);have h2:decide (k<n)=ρ:=decide_eq_false (by omega);rw[h2,Bool.false_or] at h1;have h3:=Φ.1 h1 j (by simp[hj]);simpa using h3
theorem Jy (n m:Nat) (Γ:Nat→ψ→ο→Prop) (G:ο→Prop) (a0:Act) (hΓ:∀i v w w',Γ i v w→Ext w w'→Γ i v w') (hG:∀w w',G w→Ext w w'→G w')
 (hd:eL ops=τ) (hr:lC md ops=τ) (hn:n≤ops.size) (ht:Od md ops n m=τ) (lp:∀i,i<n→nU P md ops Γ G a0 i)
 (jw:∀x w,G w→(∀i,i<n→Γ i (x i) w)→wpAny P md ops Q (ops.size - n) (jl n ops.size) (aj x (aE ops) 0 a0) w):
 ∀(fuel:Nat) (af:Array Bool) (x:Nat→ψ) (w:ο),af.size=ops.size→(∀i,af.getD i ρ=τ→∀j∈o5 md ops i,af.getD j ρ=τ)→(∀k,n≤k→k<ops.size→af.getD k ρ=ρ)→(Ω ops.size).countP (fun j=>af.getD j ρ)+fuel=ops.size→
  G w→(∀i,i<n→af.getD i ρ=τ→Γ i (x i) w)→wpAny P md ops Q fuel af (aj x (aE ops) 0 a0) w:=by
 have ml:∀(af:Array Bool),af.size=ops.size→(¬∀i,i<n→af.getD i ρ=τ)→∃i,i<n∧i∈Jaq md ops af:=by
  intro af hs kZ
  by_cases hex:∃i,i<n∧i∈Jaq md ops af
  ·exact hex
  ·exfalso;refine kZ fun i=>?_
   induction i using Nat.strongRecOn with
   |_ i ih=>
    intro hi
    by_cases hl:af.getD i ρ=τ
    ·exact hl
    ·exfalso;refine hex ⟨i,hi,?_⟩;rw[mem_ready];have sY:i<ops.size:=by omega
     have zf:i<af.size:=by omega
     have h1:af.getD i τ=ρ:=by
      simp[JaD,zf] at hl ⊢;exact hl
     refine⟨h1,ops[i],by simp[sY],fun e he hb=>?_⟩
     have h2:=Φ.1 (show(Ω ops.size).all _=τ from hr) i (by simp[sY]);simp[sY] at h2
     have h3:=h2 e.on (by
      unfold dB;exact Α.2 ⟨e,JaC.2 ⟨by simpa using he,hb⟩,rfl⟩)
     exact ih e.on h3 (by omega)
 intro fuel
 induction fuel with
 |zero=>
  intro af x w hs ln hk hc hg hx
  have hl:∀i,i<ops.size→af.getD i ρ=τ:=fun i hi=>by
   have h1:(Ω ops.size).countP (fun j=>af.getD j ρ)=(Ω ops.size).length:=by simpa using hc
   exact List.countP_eq_length.1 h1 i (by simp[hi])
  have kZ:n=ops.size:=by
   rcases JaM n ops.size with h|h
   ·have h1:=hl n h;rw[hk n (Δ _) h] at h1;cases h1
   ·omega
  have he:=jw x w hg fun i hi=>hx i hi (hl i (by omega))
  rw[show ops.size - n=0 by omega] at he
  have e1:af=jl n ops.size:=by
   apply Array.ext
   ·rw[fW,hs]
   ·intro j h1 h2;have h3:=hl j (by omega);have h4:=eV n ops.size j (by omega);rw[decide_eq_true (by omega)] at h4;simp[JaD,h1] at h3;simp[JaD,h2] at h4;rw[h3,h4]
  rw[e1];exact he
 |succ fuel ih=>
  intro af x w hs ln hk hc hg hx
  by_cases aX:∀i,i<n→af.getD i ρ=τ
  ·have he:=jw x w hg fun i hi=>hx i hi (aX i hi)
   have e1:af=jl n ops.size:=by
    apply Array.ext
    ·rw[fW,hs]
    ·intro j h1 h2;have h4:=eV n ops.size j (by omega);simp[JaD,h2] at h4
     by_cases hj:j<n
     ·have h3:=aX j hj;simp[JaD,h1] at h3;rw[h3,h4,decide_eq_true hj]
     ·have h3:=hk j (by omega) (by omega);simp[JaD,h1] at h3;rw[h3,h4,decide_eq_false hj]
   have e2:(Ω ops.size).countP (fun j=>af.getD j ρ)=n:=by
    rw[e1]
    have:(Ω ops.size).countP (fun j=>(jl n ops.size).getD j ρ)=(Ω ops.size).countP (fun j=>decide (j<n)):=by
     apply List.countP_congr;intro j hj;rw[eV n ops.size j (by simpa using hj)]
    rw[this,mF];omega
   rw[show ops.size - n=fuel+1 by omega] at he;rw[e1];exact he
  ·obtain⟨i0,Bz,xq⟩:=ml af hs aX
   refine⟨fun h0=>(by rw[h0] at xq;cases xq),fun i hi=>?_⟩
   obtain⟨h1,o,ho,aD⟩:=mem_ready.1 hi;have sY:i<ops.size:=(Array.getElem?_eq_some_iff.1 ho).1;have zf:i<af.size:=by omega
   have jm:i<n:=by
    rcases JaM i n with h|h
    ·exact h
    ·exfalso
     have jJ:∀j∈o5 md ops i,af.getD j ρ=τ:=fun j hj=>by
      unfold o5 at hj;rw[ho] at hj;unfold dB at hj;obtain⟨e,he,rfl⟩:=Α.1 hj;obtain⟨BS,BA⟩:=JaC.1 he;exact aD e (by simpa using BS) BA
     exact aX fun j hj=>zg ln m _ jJ j (E2 ht h sY j hj)
   have tq:(aE ops)[i]? =ζ o.dst:=by
    unfold aE;rw[Ψ,Array.getElem?_toList,ho];rfl
   have kf:∀v,(aj x (aE ops) 0 a0).put o.dst v=aj (kQ x i v) (aE ops) 0 a0:=fun v=>
    iy x i v (aE ops) 0 a0 o.dst (Nat.zero_le _) (by simpa using tq) (fun j e hj bj t ht he=>by
     rw[Nat.sub_zero] at bj;rw[ht] at tq;rw[he] at hj;exact bj (fc hd hj tq))
   have mR:∀v w',Ext w w'→Γ i v w'→wpAny P md ops Q fuel (af.setIfInBounds i τ) (aj (kQ x i v) (aE ops) 0 a0) w':=fun v w' hw hv=>by
    refine ih _ _ _ (by simpa using hs) (fun i' Rq j hj=>?_) (fun k h1 h2=>?_) ?_ (hG _ _ hg hw) fun j KV hj=>?_
    ·have hj0:af.getD j ρ=τ:=by
      by_cases e:i'=i
      ·subst e;unfold o5 at hj;rw[ho] at hj;unfold dB at hj;obtain⟨e,he,rfl⟩:=Α.1 hj;obtain⟨BS,BA⟩:=JaC.1 he;exact aD e (by simpa using BS) BA
      ·rw[Jbq ρ (Ne.symm e)] at Rq;exact ln i' Rq j hj
     by_cases e:j=i
     ·subst e;simp[JaD,zf]
     ·rw[Jbq ρ (Ne.symm e)];exact hj0
    ·rw[Jbq ρ (by omega)];exact hk k h1 h2
    ·have mX:=fG (fun j=>af.getD j ρ) (fun j=>(af.setIfInBounds i τ).getD j ρ) i (by simp[JaD,zf] at h1 ⊢;exact h1) (by simp[JaD,zf]) (fun j hj=>Jbq ρ (Ne.symm hj)) ops.size;rw[mX,if_pos sY];omega
    ·by_cases e:j=i
     ·subst e;simpa [kQ] using hv
     ·rw[Jbq ρ (Ne.symm e)] at hj;rw[show kQ x i v j=x j from if_neg e];exact hΓ _ _ _ _ (hx j KV hj) hw
   have OY:=lp i jm o ho x w hg (fun j hj=>by
    have ya:j<i:=by
     have h2:=Φ.1 (show(Ω ops.size).all _=τ from hr) i (by simp[sY]);rw[ho] at h2;simpa using Φ.1 h2 j hj
    unfold dB at hj;obtain⟨e,he,rfl⟩:=Α.1 hj;obtain⟨BS,BA⟩:=JaC.1 he;exact hx _ (by omega) (aD e (by simpa using BS) BA))
   unfold wpOp;simp only[ho];rcases OY with⟨hw,wQ⟩|⟨hw,hu⟩
   ·simp only[hw,if_true];exact .inl (wQ.wp fun v w' jq hv=>by rw[kf];exact mR v w' jq hv)
   ·simp only[hw,Bool.false_eq_true,if_false];rw[kf];exact mR undef w (Ext.refl w) hu
theorem xZ (n m:Nat) (S:Nat→Prop) {id:Nat} {a0:Act} {w:ο} (Γ:Nat→ψ→ο→Prop) (G:ο→Prop) (hm:P.follows .mixedOrders=τ)
 (hd:eL ops=τ) (hr:lC .any ops=τ) (hn:decide (n≤ops.size)=τ) (ht:Od .any ops n m=τ) (hΓ:∀i v w w',Γ i v w→Ext w w'→Γ i v w') (hG:∀w w',G w→Ext w w'→G w') (hg:G w.drew)
 (lp:∀i,i<n→nU P .any ops Γ G a0 i)
 (jw:∀x w,G w→(∀i,i<n→Γ i (x i) w)→nc P .any ops S Q (ops.size - n) (jl n ops.size) (aj x (aE ops) 0 a0) w):(Code.region id ops τ).wp P Q a0 w:=by
 obtain⟨x,hx⟩:=jN (aE ops) 0 a0
 have hz:∀k,(Jbe ops.size ρ).getD k ρ=ρ:=fun k=>by
  by_cases h:k<ops.size<;>simp[JaD,h]
 have h:=Jy (P:=P) (Q:=Q) (md:=.any) n m Γ G a0 hΓ hG hd hr (of_decide_eq_true hn) ht lp (fun x w h1 h2=>fH _ _ _ _ (jw x w h1 h2)) ops.size (Jbe ops.size ρ) x w.drew (by simp) (fun i hi=>by rw[hz i] at hi;cases hi) (fun k _ _=>hz k) (by
  have:(Ω ops.size).countP (fun j=>(Jbe ops.size ρ).getD j ρ)=0:=by
   rw[List.countP_eq_zero];intro j hj;rw[hz j];simp
  omega) hg (fun i _ hi=>by rw[hz i] at hi;cases hi)
 rw[hx] at h;exact wp_region_any hm h
end
theorem JO:(η.info? 3).map (fun i=>(i.zero,i.size,i.bytes))=ζ (ζ (J 0),1,8):=by kernel_rfl
theorem FY (W:ο) (n:Nat) (hn:n≤1000000):(Instr.makeSlice 101 (J (n:Int)) (J (n:Int))).run η W=.ok (γ (ζ ⟨W.heap.size,0,ε⟩) n n) (W.alloc (δ (JbN n (J 0)).toArray 3)):=by
 obtain⟨i0,hi,qJ,ly,kK⟩:=info_parts JO
 have:=run_make (P:=η) W 101 3 i0 _ Tryz.underlying101 hi qJ .i64 .i64 n n (by omega) (by omega) (by rw[kK];omega) (by omega)
 rw[ly,Jbn,Nat.mul_one] at this;rw[this];congr 3;have e:=toList_madeCells_one (J 0) n;exact Array.toList_inj.1 (by rw[show(J 0).cells=#[J 0] from rfl,e])
abbrev St:=List Int × (I2→Option Nat)
def jr (i:Nat) (s:St) (x:D):St:=match s.2 (x.1,x.2.1) with
 |some j=>(cR s.1 (s.1.getD i 0) (s.1.getD j 0),s.2)
 |none=>(s.1,fun y=>if y=(x.1,x.2.1) then ζ i else s.2 y)
def ta:Nat→List VC→St→St
 |_,[],s=>s
 |i,v::r,s=>ta (i+1) r (v.2.1.2.2.2.foldl (jr i) s)
def lL (n:Nat):List Int:=(Ω n).map fun k:Nat=>(k:Int)
def dm (Vs:List VC):List Int:=(ta 0 Vs (lL Vs.length,fun _=>ε)).1
theorem kN (L:List Int) (a b:Int):(cR L a b).length=L.length:=by simp[cR]
theorem Un (n j:Nat) (h:j<n):(lL j++JbN (n - j) (0:Int)).set j (j:Int)=lL (j+1)++JbN (n - (j+1)) 0:=by
 have hl:(lL j).length=j:=by simp[lL]
 rw[List.set_append_right _ _ (by omega),hl,JaP,show n - j=(n - (j+1))+1 by omega,List.replicate_succ,List.set_cons_zero];simp[lL,List.range_succ]
theorem aae (n j:Nat) (h:j<n):(lL j++JbN (n - j) (0:Int))[j]? =ζ 0:=by
 have hl:(lL j).length=j:=by simp[lL]
 rw[Jal (by omega),hl,JaP,show n - j=(n - (j+1))+1 by omega,List.replicate_succ];rfl
theorem NB (n:Nat):ah n1 (JbN n 0)=JbN n (J 0):=by
 induction n with
 |zero=>rfl
 |succ k ih=>rw[List.replicate_succ,List.replicate_succ,←ih];rfl
def eK (w:ο) (b n:Nat) (e:I2→Option Nat):Prop:=de w Nf b n (fun y=>(e y).map fun j:Nat=>J (j:Int))
theorem Mk {w:ο} {b n:Nat} {e:I2→Option Nat} {x:I2} {i:Nat} (h:de w Nf b n (fun y=>if y=x then ζ (J (i:Int)) else(e y).map fun j:Nat=>J (j:Int))):eK w b n (fun y=>if y=x then ζ i else e y):=by
 have:(fun y=>if y=x then ζ (J (i:Int)) else(e y).map fun j:Nat=>J (j:Int))=(fun y=>(if y=x then ζ i else e y).map fun j:Nat=>J (j:Int)):=by
  funext y
  split<;>rfl
 unfold eK;rw[←this];exact h
section
variable {w w':ο} {b n:Nat} {e:I2→Option Nat}
theorem eK.al (h:eK w b n e) (o:Obj):eK (w.alloc o) b n e:=de.al h o
theorem eK.bl (h:eK w b n e) (hb:σ w.heap.size w w'):eK w' b n e:=de.bl h hb
theorem eK.dr (h:eK w b n e):eK w.drew b n e:=de.dr h
theorem eK.mono {n':Nat} (h:eK w b n e) (hn:n≤n'):eK w b n' e:=de.mono h hn
theorem eK.kept {S:Nat→Prop} (h:eK w b n e) (hk:Kept S w w') (hb:¬S b):eK w' b n e:=de.kept h hk hb
theorem eK.lt (h:eK w b n e):b<w.heap.size:=de.lt h
end
def VU (g n i j:Nat) (a b:Int):Nat→ψ→ο→Prop
 |0,v,_=>v=γ (ζ ⟨g,0,ε⟩) n n
 |1,v,_=>v=γ (ζ ⟨g,0,ε⟩) n n
 |2,v,_=>v=J (i:Int)
 |3,v,_=>v=υ (ζ ⟨g,i,ε⟩)
 |4,v,_=>v=J a
 |5,v,_=>v=γ (ζ ⟨g,0,ε⟩) n n
 |6,v,_=>v=J (j:Int)
 |7,v,_=>v=υ (ζ ⟨g,j,ε⟩)
 |8,v,_=>v=J b
 |_,_,_=>True
theorem Sb {g n i j:Nat} {a b:Int}:∀(q:Nat) (v:ψ) (W W':ο),VU g n i j a b q v W→Ext W W'→VU g n i j a b q v W'
 |0,_,_,_,h,_=>h
 |1,_,_,_,h,_=>h
 |2,_,_,_,h,_=>h
 |3,_,_,_,h,_=>h
 |4,_,_,_,h,_=>h
 |5,_,_,_,h,_=>h
 |6,_,_,_,h,_=>h
 |7,_,_,_,h,_=>h
 |8,_,_,_,h,_=>h
 |_+9,_,_,_,_,_=>trivial
theorem TC {W:ο} {lo g n c:Nat} {L:List Int} (h:W.ownsRow lo 3 1 (γ (ζ ⟨g,0,ε⟩) n c) n (ah n1 L)) (hl:L.length=n) {i:Nat} (hi:i<n):W.cell? ⟨g,i,ε⟩=ζ (J (L.getD i 0)):=by
 obtain⟨x,hx⟩:∃x,L[i]? =ζ x:=⟨_,θ (by omega)⟩
 have h1:=(aK h).elem nW hx 0 _ rfl;simp only[Ν,Jac,JaI,Nat.mul_one] at h1;rw[χ,hx];exact h1
theorem Kg {ops:Array JaZ} {rest:List JaZ} {o:JaZ} {a:Act} {Q:Exit→Act→ο→Prop} {w:ο} (hg:o.guard=ε) (m y:Jbd) (ho:o.op=.lookup 197 m y τ) {b n:Nat} {e:I2→Option Nat} (hm:a.eval m=.map (ζ b)) (h:eK w b n e)
 (x:I2) (hx:P8 x) (hy:a.eval y=φ #[J x.1,J x.2]) (he:e x=ε) (hK:JbI η ops Q rest (a.put o.dst (Ξ #[J 0,Β ρ])) w):JbI η ops Q (o::rest) a w:=by
 refine jE hg m y ho hm h Tryz.underlying197 (kO w) hx hy ?_;rw[he];exact hK
theorem EO {ops:Array JaZ} {rest:List JaZ} {o:JaZ} {a:Act} {Q:Exit→Act→ο→Prop} {w:ο} (hg:o.guard=ε) (m y:Jbd) (ho:o.op=.lookup 197 m y τ) {b n:Nat} {e:I2→Option Nat} (hm:a.eval m=.map (ζ b)) (h:eK w b n e)
 (x:I2) (hx:P8 x) (hy:a.eval y=φ #[J x.1,J x.2]) {j:Nat} (he:e x=ζ j) (hK:JbI η ops Q rest (a.put o.dst (Ξ #[J (j:Int),Β τ])) w):JbI η ops Q (o::rest) a w:=by
 refine jE hg m y ho hm h Tryz.underlying197 (kO w) hx hy ?_;rw[he];exact hK
theorem Er {ops:Array JaZ} {rest:List JaZ} {o:JaZ} {a:Act} {Q:Exit→Act→ο→Prop} {w:ο} (hg:o.guard=ε) (m y v:Jbd) (ho:o.op=.mapUpdate 197 m y v) {b n:Nat} {e:I2→Option Nat} (hm:a.eval m=.map (ζ b)) (h:eK w b n e) (hn:n<Jap)
 (x:I2) (hx:P8 x) (hy:a.eval y=φ #[J x.1,J x.2]) {i:Nat} (hv:a.eval v=J (i:Int)) (hK:∀w',eK w' b (n+1) (fun y=>if y=x then ζ i else e y)→w.grownBy w' (ζ b)→JbI η ops Q rest (a.put o.dst undef) w'):JbI η ops Q (o::rest) a w:=
 zq hg m y v ho hm h Tryz.underlying197 hn hx hy hv fun w' h1 h2=>hK w' (Mk h1) h2
structure ql (n:Nat) (s:St):Prop where
 len:s.1.length=n
 lt:∀y j,s.2 y=ζ j→j<n
theorem ql.step {n i:Nat} {s:St} (h:ql n s) (hi:i<n) (x:D):ql n (jr i s x):=by
 unfold jr;split
 ·exact⟨by rw[kN];exact h.len,h.lt⟩
 ·refine⟨h.len,fun y j hy=>?_⟩
  simp only at hy;split at hy
  ·obtain rfl:=Μ hy;exact hi
  ·exact h.lt y j hy
theorem Fp (A:Option Κ) (n c:Nat) (Vs:List VC) (B:Option Κ) (m k:Nat) (Es:List EC) (w:ο) (h:bz w A n c Vs B m k Es) (hn:n≤1000000) (hr:∀x∈Vs,x.2.1.2.1≤1000000) (hv:∀v∈Vs,∀d∈v.2.1.2.2.2,su d):
 Ζ η 188 #[φ #[γ A n c,γ B m k]] w fun e w'=>∃g,e=.returned (γ (ζ ⟨g,0,ε⟩) n n)∧w'.ownsRow w.heap.size 3 1 (γ (ζ ⟨g,0,ε⟩) n n) n (ah n1 (dm Vs))∧σ w.heap.size w w':=by
 have HV:=qh h.v;have sw:=qh h.r;have oG:=qh (h.v.rlen aS (by decide));have Hhv:=qh hv;have AL:=qh hr;have HJ:=qh (fun g L a b lo W h hl=>Mb g n n L a b lo W h hn hl);obtain⟨lab,VR⟩:=aB (dm Vs);have HL0:=qh VR;rw[VR];clear h hv hr VR;have Pn:=fun W=>FY W n hn
 have Ee:=@run_makeMap η;go_enter Tryz.func188,Tryz.ntmps188;go_upto_region 1 with fail
 obtain⟨W0,b0,bO,bp,aQ,bw,mQ,lZ,oa⟩:=yj w 25 [γ A n c,γ B m k];rw[bO,bp];clear bO bp;have HX:=aQ;have c0:=HX.out.cell (i:=0) rfl;go_wp2;clear Pn c0;have PC:Hid ((W0.alloc (δ (Jbe n (J 0)) 3)).ownsRow w.heap.size 3 1 (γ (ζ ⟨W0.heap.size,0,ε⟩) n n) n (ah n1 (lL 0++JbN (n - 0) 0))):=qh (Ip rfl bw.out.size (by unfold Jap;omega) (by simp) (by rw[show lL 0++JbN (n - 0) (0:Int)=JbN n 0 from by simp[lL],NB];simp));have aL:=qh (HX.out.alloc (δ (Jbe n (J 0)) 3));have bE:=qh (aI bw.out (δ (Jbe n (J 0)) 3));have Hne:Hid (b0≠W0.heap.size):=qh (by have:=HX.out.lt;omega);have vu:Hid (w.heap.size≤W0.heap.size):=qh bw.out.size;obtain⟨W1,aV⟩:=aB (W0.alloc (δ (Jbe n (J 0)) 3));obtain⟨gl,ggl⟩:=aB W0.heap.size;rw[aV,ggl] at PC;rw[aV] at aL bE ⊢;rw[ggl] at Hne vu ⊢;clear aV ggl HX aQ bw mQ;go_loopw [18] (fun si wr=>∃j:Nat,j≤n∧si=J j∧Hid (σ w.heap.size w wr)∧Hid (Whole wr b0 25 [γ A n c,γ B m k])∧Hid (wr.ownsRow w.heap.size 3 1 (γ (ζ ⟨gl,0,ε⟩) n n) n (ah n1 (lL j++JbN (n - j) 0)))) (fun si _=>n - (intOf si).toNat)
 case atStart=>exact⟨0,by omega,rfl,bE,aL,PC⟩
 case round=>
  clear bE aL PC;obtain⟨j,hj,rfl,HB,HX,HO⟩:=hrel;obtain⟨wo,cS⟩:=aB wr;rw[cS] at HB HX HO ⊢;clear cS
  by_cases nT:j<n
  ·obtain⟨g2,junk,e,fw,hw,hc,hf,ho⟩:=eZ (i:=0) (y:=(j:Int)) (u:=J (j:Int)) nW HO.out (aae n j nT) nT (by omega) rfl
   obtain rfl:gl=g2:=by
    injection e with e
    injection e
   rw[Un n j nT,show(j*1+0:Nat)=j by omega] at ho;have ZD:wo.cell? ⟨gl,j,ε⟩=ζ (J 0):=by have:=hc.trans (show(n1 0)[0]? =ζ (J 0) from rfl);simpa using this
   have hf0:wo.frozen? ⟨gl,j,ε⟩=ρ:=by simpa using hf
   have iN:=qh ho;have aZ:=qh (HX.out.set_far' (i:=j) Hne.out (J (j:Int)));have bG:=qh (HB.out.setCell (p:=⟨gl,j,ε⟩) vu.out (J (j:Int)));clear e fw hw hc hf ho HO HX HB;go_wp2;go_roundw
   case rel=>exact⟨j+1,by omega,by go_num,bG,aZ,iN⟩
   case measure=>simp[intOf];omega
  ·obtain rfl:n=j:=by omega
   have hO:=HO.out;rw[JaP,List.replicate_zero,Jbi] at hO;have Pf:=qh (bo hO (az wo (.map #[] 0)));have FR:Hid (eK (wo.alloc (.map #[] 0)) wo.heap.size (0*1000000) (fun _=>ε)):=qh (show de _ Nf _ _ _ from(de.made).mono (by omega));have lX:=qh (aI HB.out (.map #[] 0));have sV:Hid (gl≠wo.heap.size):=qh (by have h1:=(AM hO rfl).2;have h2:gl<wo.heap.size:=h1;omega);have Ej:Hid (w.heap.size≤wo.heap.size):=qh HB.out.size;have c0:=(HX.out.alloc (.map #[] 0)).cell (i:=0) rfl;have mQ:Hid (ql n (lL n,fun _=>ε)):=qh ⟨by simp[lL],fun y j h=>(by cases h)⟩;have Z5:Hid (lab=(ta 0 (Vs.drop 0) (lL n,fun _=>ε)).1):=qh (by rw[←HL0.out,List.drop_zero,dm,oG.out]);clear hO HO;go_wp2;clear c0 Ee;obtain⟨W2,eU⟩:=aB (wo.alloc (.map #[] 0));obtain⟨bm,EP⟩:=aB wo.heap.size;rw[eU] at Pf FR lX ⊢;rw[EP] at FR sV Ej ⊢;clear eU EP HB HX;go_loopw [30] (fun si wr=>∃(i:Nat) (s:St),i≤n∧si=J i∧Hid (σ w.heap.size w wr)∧Hid (wr.ownsRow w.heap.size 3 1 (γ (ζ ⟨gl,0,ε⟩) n n) n (ah n1 s.1))∧Hid (eK wr bm (i*1000000) s.2)∧Hid (ql n s)∧Hid (lab=(ta i (Vs.drop i) s).1)) (fun si _=>n - (intOf si).toNat)
   case atStart=>exact⟨0,_,by omega,rfl,lX,Pf,FR,mQ,Z5⟩
   case round=>
    clear lX Pf FR mQ Z5;obtain⟨i,s,hi,rfl,HB,HO,HM,HS,HF⟩:=hrel;obtain⟨wo,cS⟩:=aB wr;rw[cS] at HB HO HM ⊢;clear cS
    by_cases jm:i<n
    ·obtain⟨v,hx⟩:∃v,Vs[i]? =ζ v:=⟨_,θ (by have:=oG.out;omega)⟩
     have kd:Vs.drop i=v::Vs.drop (i+1):=by
      rw[Χ (ν.1 hx).1,(ν.1 hx).2]
     have xM:=ω hx;have uH:=sw.out v xM;have kc:=AL.out v xM;have YW:=Hhv.out v xM;have hF:=HF.out;rw[kd,ta] at hF;obtain⟨bb,off,rfl,aY,a8⟩:=HV.out.place aS (by decide) (by omega);have bC:=HB.out;have q0:=a8 i _ hx 0 _ rfl;have q1:=a8 i _ hx 1 _ rfl;have q2:=a8 i _ hx 2 _ rfl;have q3:=a8 i _ hx 3 _ rfl;have q4:=a8 i _ hx 4 _ rfl;simp only[Ν,Jac] at q0 q1 q2 q3 q4;have l0:=(bC.cell (p:=⟨bb,off+i*5,ε⟩) aY).trans q0;have l1:=(bC.cell (p:=⟨bb,off+i*5+1,ε⟩) aY).trans q1;have l2:=(bC.cell (p:=⟨bb,off+i*5+2,ε⟩) aY).trans q2;have l3:=(bC.cell (p:=⟨bb,off+i*5+3,ε⟩) aY).trans q3;have l4:=(bC.cell (p:=⟨bb,off+i*5+4,ε⟩) aY).trans q4;clear bC q0 q1 q2 q3 q4;obtain⟨⟨i1,i2⟩,⟨rA,rn,rc,rL⟩,lb,at_⟩:=v;replace kc:rn≤1000000:=kc;have HR:Hid (bg w w.heap.size 3 rA rn rc (aA rL)):=qh uH.2;have UM:=qh HR.out.dlen;have Hwf:Hid (∀d∈rL,su d):=qh YW;have Bh:Hid (lab=(ta (i+1) (Vs.drop (i+1)) ((rL.drop 0).foldl (jr i) s)).1):=qh hF;have Gi:=qh (aI HB.out (δ #[J i1,J i2,γ rA rn rc,μ lb,J at_] 59));have SC:=qh (bo HO.out (az wo (δ #[J i1,J i2,γ rA rn rc,μ lb,J at_] 59)));have X4:=qh ((HM.out.mono (show i*1000000≤i*1000000+0 by omega)).al (δ #[J i1,J i2,γ rA rn rc,μ lb,J at_] 59));clear hx kd xM uH YW hF a8 aY HF HO HM;go_wp2;clear l0 l1 l2 l3 l4 HB;go_loopw [38] (fun sj wr=>∃(j:Nat) (s:St),j≤rn∧sj=J j∧Hid (σ w.heap.size w wr)∧Hid (wr.ownsRow w.heap.size 3 1 (γ (ζ ⟨gl,0,ε⟩) n n) n (ah n1 s.1))∧Hid (eK wr bm (i*1000000+j) s.2)∧Hid (ql n s)∧Hid (lab=(ta (i+1) (Vs.drop (i+1)) ((rL.drop j).foldl (jr i) s)).1)) (fun sj _=>rn - (intOf sj).toNat)
     case atStart=>exact⟨0,s,by omega,rfl,Gi,SC,X4,HS,Bh⟩
     case round=>
      clear Gi SC X4 HS Bh;obtain⟨j,s,hj,rfl,HB,HO,HM,HS,HF⟩:=hrel;obtain⟨wi,wE⟩:=aB wr;rw[wE] at HB HO HM ⊢;clear wE
      by_cases hjr:j<rn
      ·obtain⟨b,um,rfl,hb,hc⟩:=(HR.out.up HB.out HB.out.size).darts (by omega);have qq:j<rL.length:=by have:=UM.out;omega
       obtain⟨d1,d2,d3⟩:=hc j qq;obtain⟨x,gx⟩:=aB (rL.getD j (0,0,0));have Xk:rL[j]=x:=by rw[←gx,χ,θ qq];rfl
       have KP:x∈rL:=by rw[←Xk];exact List.getElem_mem qq
       have kd:rL.drop j=x::rL.drop (j+1):=by rw[Χ qq,Xk]
       have OV:=Hwf.out x KP;rw[gx] at d1 d2 d3;have hF:=HF.out;rw[kd,List.foldl_cons] at hF;have Bh:=qh hF;have cB:=qh (HS.out.step jm x);obtain⟨x1,x2,x3⟩:=x;have Hx:Hid (P8 (x1,x2)):=qh ⟨OV.1,OV.2.1⟩;have D6:=qh (aI HB.out (δ #[J x1,J x2,J x3] 32));have Xr:=qh (bo HO.out (az wi (δ #[J x1,J x2,J x3] 32)));have Px:=qh (HM.out.al (δ #[J x1,J x2,J x3] 32));obtain⟨t,gt⟩:=aB (s.2 (x1,x2));have Gt:=qh gt;clear hc hb gx Xk KP kd qq hF OV HF gt HB HO HM;cases t with
       |none=>
        have HE:Hid (jr i s (x1,x2,x3)=(s.1,fun y=>if y=(x1,x2) then ζ i else s.2 y)):=qh (by unfold jr;simp[Gt.out]);have pO:=cB.out;rw[HE.out] at pO;have oH:=Bh.out;rw[HE.out] at oH;have cY:=qh pO;have Gx:=qh oH;clear pO oH HE;go_upto_region 14 with fail
        refine Jam ?_;refine a7 (v:=?_) (ζ 43) rfl (by rfl) ?_ ?_;rotate_left
        ·go_simp;(try with_reducible rfl)
        simp only[ξ,aw,ar,aq];refine a7 (v:=?_) (ζ 44) rfl (by rfl) ?_ ?_;rotate_left
        ·go_simp;(try with_reducible rfl)
        simp only[ξ,aw,ar,aq];refine a7 (v:=?_) (ζ 45) rfl (by rfl) ?_ ?_;rotate_left
        ·go_simp;(try with_reducible rfl)
        simp only[ξ,aw,ar,aq];refine Kg rfl _ _ rfl rfl (by exact Px.out) (x1,x2) Hx.out rfl Gt.out ?_;simp only[ξ,aw,ar,aq];go_upto_region 17 with fail
        refine Jam ?_;refine a7 (v:=?_) (ζ 60) rfl (by rfl) ?_ ?_;rotate_left
        ·go_simp;(try with_reducible rfl)
        simp only[ξ,aw,ar,aq];refine a7 (v:=?_) (ζ 61) rfl (by rfl) ?_ ?_;rotate_left
        ·go_simp;(try with_reducible rfl)
        simp only[ξ,aw,ar,aq];refine a7 (v:=?_) (ζ 62) rfl (by rfl) ?_ ?_;rotate_left
        ·go_simp;(try with_reducible rfl)
        simp only[ξ,aw,ar,aq];refine a7 (v:=?_) (ζ 63) rfl (by rfl) ?_ ?_;rotate_left
        ·go_simp;(try with_reducible rfl)
        simp only[ξ,aw,ar,aq];have xi:i*1000000+j<Jap:=by unfold Jap;omega
        refine Er rfl _ _ _ rfl rfl (by exact Px.out) xi (x1,x2) Hx.out rfl rfl ?_;intro w3 Hw KK;have bj:ζ bm≠(Ο (ζ (⟨gl,0,ε⟩:Κ)) n n).ownBlock:=fun e=>sV.out (Μ e).symm
        have D5:Hid (eK w3 bm (i*1000000+(j+1)) (fun y=>if y=(x1,x2) then ζ i else s.2 y)):=qh (Hw.mono (by omega));have Ck:=qh (Xr.out.kept (row:=ζ bm) KK (by first|exact bj|exact bj.symm|exact .inr bj|exact .inr bj.symm));have bB:=qh (zC D6.out KK Ej.out);clear Hw KK bj xi;go_wp2;go_roundw
        case rel=>exact⟨j+1,(s.1,fun y=>if y=(x1,x2) then ζ i else s.2 y),by omega,by go_num,bB,Ck,D5,cY,Gx⟩
        case measure=>simp[intOf];omega
       |some j2=>
        have HE:Hid (jr i s (x1,x2,x3)=(cR s.1 (s.1.getD i 0) (s.1.getD j2 0),s.2)):=qh (by unfold jr;simp[Gt.out]);have KJ:j2<n:=HS.out.lt _ _ Gt.out;obtain⟨a,ga⟩:=aB (s.1.getD i 0);obtain⟨b,gb⟩:=aB (s.1.getD j2 0);have hca:=TC Xr.out HS.out.len jm;have Pu:=TC Xr.out HS.out.len KJ;rw[ga] at HE hca;rw[gb] at HE Pu;clear ga gb;have pO:=cB.out;rw[HE.out] at pO;have oH:=Bh.out;rw[HE.out] at oH;have cY:=qh pO;have Gx:=qh oH;clear pO oH HE;go_upto_region 14 with fail
        refine Jam ?_;refine a7 (v:=?_) (ζ 43) rfl (by rfl) ?_ ?_;rotate_left
        ·go_simp;(try with_reducible rfl)
        simp only[ξ,aw,ar,aq];refine a7 (v:=?_) (ζ 44) rfl (by rfl) ?_ ?_;rotate_left
        ·go_simp;(try with_reducible rfl)
        simp only[ξ,aw,ar,aq];refine a7 (v:=?_) (ζ 45) rfl (by rfl) ?_ ?_;rotate_left
        ·go_simp;(try with_reducible rfl)
        simp only[ξ,aw,ar,aq];refine EO rfl _ _ rfl rfl (by exact Px.out) (x1,x2) Hx.out rfl Gt.out ?_;simp only[ξ,aw,ar,aq];go_upto_region 16 with fail
        clear d1 d2 d3;obtain⟨W3,kh⟩:=aB (wi.alloc (δ #[J x1,J x2,J x3] 32));rw[kh] at D6 Xr Px hca Pu ⊢;clear kh;refine xZ 9 2 (fun z=>z=gl) (VU gl n i j2 a b) (Ext W3.drew) (by kernel_rfl) (by kernel_rfl) (by kernel_rfl) (by kernel_rfl) (by kernel_rfl) (fun q v w1 w2 h hx=>Sb q v w1 w2 h hx) (fun _ _ h k=>h.trans k) (Ext.refl _) ?_ ?_
        ·intro q hq9;have dF:q=0∨q=1∨q=2∨q=3∨q=4∨q=5∨q=6∨q=7∨q=8:=by omega
         rcases dF with rfl|rfl|rfl|rfl|rfl|rfl|rfl|rfl|rfl
         ·refine aH ?_;intro x y hg aD;simp only[aE,ι,π,aj,ξ,aw,ar,aq];refine .inl ⟨by rfl,?_⟩;go_simp;exact⟨Ext.refl _,rfl⟩
         ·refine aH ?_;intro x y hg aD;simp only[aE,ι,π,aj,ξ,aw,ar,aq];refine .inl ⟨by rfl,?_⟩;go_simp;exact⟨Ext.refl _,rfl⟩
         ·refine aH ?_;intro x y hg aD;simp only[aE,ι,π,aj,ξ,aw,ar,aq];refine .inl ⟨by rfl,?_⟩;go_simp;exact⟨Ext.refl _,rfl⟩
         ·refine aH ?_;intro x y hg aD;have d1:x 1=γ (ζ ⟨gl,0,ε⟩) n n:=aD 1 (by decide);have d2:x 2=J (i:Int):=aD 2 (by decide);simp only[aE,ι,π,aj,ξ,aw,ar,aq];simp only[d1,d2];refine .inl ⟨by rfl,?_⟩;go_simp;exact⟨Ext.refl _,rfl⟩
         ·refine aH ?_;intro x y hg aD;have hc:=hg.cell (p:=⟨gl,i,ε⟩) hca;have d3:x 3=υ (ζ ⟨gl,i,ε⟩):=aD 3 (by decide);simp only[aE,ι,π,aj,ξ,aw,ar,aq];simp only[d3];refine .inl ⟨by rfl,?_⟩;go_simp;exact⟨Ext.refl _,rfl⟩
         ·refine aH ?_;intro x y hg aD;simp only[aE,ι,π,aj,ξ,aw,ar,aq];refine .inl ⟨by rfl,?_⟩;go_simp;exact⟨Ext.refl _,rfl⟩
         ·refine aH ?_;intro x y hg aD;simp only[aE,ι,π,aj,ξ,aw,ar,aq];refine .inl ⟨by rfl,?_⟩;go_simp;exact⟨Ext.refl _,rfl⟩
         ·refine aH ?_;intro x y hg aD;have d5:x 5=γ (ζ ⟨gl,0,ε⟩) n n:=aD 5 (by decide);have d6:x 6=J (j2:Int):=aD 6 (by decide);simp only[aE,ι,π,aj,ξ,aw,ar,aq];simp only[d5,d6];refine .inl ⟨by rfl,?_⟩;go_simp;exact⟨Ext.refl _,rfl⟩
         ·refine aH ?_;intro x y hg aD;have hc:=hg.cell (p:=⟨gl,j2,ε⟩) Pu;have d7:x 7=υ (ζ ⟨gl,j2,ε⟩):=aD 7 (by decide);simp only[aE,ι,π,aj,ξ,aw,ar,aq];simp only[d7];refine .inl ⟨by rfl,?_⟩;go_simp;exact⟨Ext.refl _,rfl⟩
        intro x y hg aX;have d0:x 0=γ (ζ ⟨gl,0,ε⟩) n n:=aX 0 (by decide);have d4:x 4=J a:=aX 4 (by decide);have d8:x 8=J b:=aX 8 (by decide);simp only[aE,ι,π,aj,ξ,aw,ar,aq];simp only[d0,d4,d8];have HOy:=qh (bo (bo Xr.out ((Θ _ _).drew)) hg);have SP:=qh (Px.out.dr.bl hg);have qH:=qh (ag (aN D6.out) hg);clear hg aX d0 d4 d8 hca Pu Xr Px D6;refine mw 9 ?_;intro w' aC
        refine(HJ.out gl s.1 a b w.heap.size w' (bo HOy.out aC) HS.out.len).mono ?_
        rintro e w9 ⟨rfl,U7,ff⟩
        refine⟨_,rfl,ff,?_⟩
        have h:=ag qH.out aC;have oC:Hid (σ w.heap.size w w9):=qh ⟨ff.os.trans h.os,ff.tape.trans h.tape,ff.output.trans h.output,Λ h.size ff.size,fun z hz=>(ff.block z (JaK hz h.size) (fun e=>by have:=vu.out;omega)).trans (h.block z hz)⟩;have EX:=qh ((SP.out.bl aC).kept ff (fun e=>sV.out e.symm));have xr:=qh U7;obtain⟨V9,Tf⟩:=aB w9;rw[Tf] at oC EX xr ⊢;clear aC h U7 ff Tf HOy SP qH;simp only[ξ,aw,ar,aq];refine aF (by kernel_rfl) ?_ _;intro W8 cg;have nV:=qh (ag oC.out cg);have yu:=qh ((EX.out.bl cg).mono (show i*1000000+j≤i*1000000+(j+1) by omega));have XW:=qh (bo xr.out cg);clear cg oC EX xr;go_wp2;go_roundw
        case rel=>exact⟨j+1,(cR s.1 a b,s.2),by omega,by go_num,nV,XW,yu,cY,Gx⟩
        case measure=>simp[intOf];omega
      ·obtain rfl:rn=j:=by omega
       have Gx:Hid (lab=(ta (i+1) (Vs.drop (i+1)) s).1):=qh (by
        have h1:=HF.out;have e1:rL.drop rn=[]:=Jav (by have:=UM.out;omega);rw[e1] at h1;exact h1)
       have WL:=qh (HM.out.mono (show i*1000000+rn≤(i+1)*1000000 by omega));clear HF HM;go_wp2;go_roundw
       case rel=>exact⟨i+1,s,by omega,by go_num,HB,HO,WL,HS,Gx⟩
       case measure=>simp[intOf];omega
    ·obtain rfl:n=i:=by omega
     have hF:=HF.out;rw[Jav (by have:=oG.out;omega)] at hF;replace hF:lab=s.1:=hF;have xr:Hid (wo.ownsRow w.heap.size 3 1 (γ (ζ ⟨gl,0,ε⟩) n n) n (ah n1 lab)):=qh (by rw[hF];exact HO.out);clear hF HF HO;go_wp2;go_ret;exact⟨gl,rfl,xr.out,HB.out⟩
def fm:Nat→List VC→I2→Int
 |_,[],_=> -1
 |j,v::r,x=>if v.1=x then(j:Int) else fm (j+1) r x
theorem VW {W:ο} {B g n c:Nat} {L:List Int} (h:bg W B 1 (ζ ⟨g,0,ε⟩) n c (ah n1 L)) (hl:L.length=n) {i:Nat} (hi:i<n):W.cell? ⟨g,i,ε⟩=ζ (J (L.getD i 0)):=by
 obtain⟨x,hx⟩:∃x,L[i]? =ζ x:=⟨_,θ (by omega)⟩
 have h1:=h.elem nW hx 0 _ rfl;simp only[Ν,Jac,JaI,Nat.mul_one] at h1;rw[χ,hx];exact h1
theorem B4:∀(Vs:List VC) (i:Nat) (s:St),(ta i Vs s).1.length=s.1.length
 |[],_,_=>rfl
 |v::r,i,s=>by
  rw[ta,B4 r];generalize v.2.1.2.2.2=R
  induction R generalizing s with
  |nil=>rfl
  |cons x R ih=>
   rw[List.foldl_cons,ih];unfold jr;split
   ·exact kN _ _ _
   ·rfl
theorem mx (Vs:List VC):(dm Vs).length=Vs.length:=by
 rw[dm,B4];simp[lL]
def jf (a b x:Int):Int:=if x=a∨x=b then min a b else x
theorem pR (L:List Int) (a b:Int) {i:Nat} (h:i<L.length):(cR L a b).getD i 0=jf a b (L.getD i 0):=by
 have h2:i<(cR L a b).length:=by rw[kN];exact h
 rw[χ,χ,θ h2,θ h];simp[cR,jf]
theorem Z4 (a b x:Int):jf a b x≤x:=by
 unfold jf;split
 ·rename_i h;rcases h with rfl|rfl<;>omega
 ·omega
theorem aa0 (a b x:Int):jf a b x=x∨jf a b x=a∨jf a b x=b:=by
 unfold jf;split
 ·by_cases h:a≤b
  ·exact .inr (.inl (by omega))
  ·exact .inr (.inr (by omega))
 ·exact .inl rfl
theorem aaA (a b x:Int):jf a b (jf a b x)=jf a b x:=by
 by_cases h:x=a∨x=b
 ·have e:jf a b x=min a b:=if_pos h;rw[e];exact if_pos (by omega)
 ·have e:jf a b x=x:=if_neg h;rw[e,e]
def nN (L:List Int):Prop:=∀i,i<L.length→0≤L.getD i 0∧L.getD i 0≤i∧L.getD (L.getD i 0).toNat 0=L.getD i 0
theorem tH (n i:Nat) (h:i<n):(lL n).getD i 0=(i:Int):=by
 rw[χ,lL,Ψ,List.getElem?_range h];rfl
theorem nN.up (n:Nat):nN (lL n):=fun i hi=>by
 have hl:(lL n).length=n:=by simp[lL]
 rw[hl] at hi;rw[tH n i hi,Jbn,tH n i hi];omega
theorem nN.join {L:List Int} (h:nN L) {p q:Nat} (hp:p<L.length) (hq:q<L.length):nN (cR L (L.getD p 0) (L.getD q 0)):=fun i hi=>by
 rw[kN] at hi;obtain⟨a0,a1,a2⟩:=h p hp;obtain⟨b0,b1,b2⟩:=h q hq;obtain⟨x0,x1,x2⟩:=h i hi;rw[pR L _ _ hi];obtain⟨a,ga⟩:=aB (L.getD p 0);obtain⟨b,gb⟩:=aB (L.getD q 0);obtain⟨x,gx⟩:=aB (L.getD i 0);rw[ga] at a0 a1 a2 ⊢;rw[gb] at b0 b1 b2 ⊢;rw[gx] at x0 x1 x2 ⊢;have hle:=Z4 a b x;have hj:=aa0 a b x;have hjj:=aaA a b x
 have key:0≤jf a b x∧L.getD (jf a b x).toNat 0=jf a b x:=by
  rcases hj with e|e|e
  ·rw[e];exact⟨x0,x2⟩
  ·rw[e];exact⟨a0,a2⟩
  ·rw[e];exact⟨b0,b2⟩
 refine⟨key.1,by omega,?_⟩
 rw[pR L _ _ (by omega),key.2,hjj]
theorem nN.step {n i:Nat} {s:St} (h:nN s.1) (hs:ql n s) (hi:i<n) (x:D):nN (jr i s x).1:=by
 unfold jr;split
 ·rename_i j hj;exact h.join (by rw[hs.len];exact hi) (by rw[hs.len];exact hs.lt _ _ hj)
 ·exact h
theorem IP {n i:Nat} (hi:i<n):∀(R:List D) (s:St),nN s.1→ql n s→nN (R.foldl (jr i) s).1∧ql n (R.foldl (jr i) s)
 |[],s,h,hs=>⟨h,hs⟩
 |x::R,s,h,hs=>IP hi R _ (h.step hs hi x) (hs.step hi x)
theorem H5 {n:Nat}:∀(Vs:List VC) (i:Nat) (s:St),i+Vs.length≤n→nN s.1→ql n s→nN (ta i Vs s).1∧ql n (ta i Vs s)
 |[],_,s,_,h,hs=>⟨h,hs⟩
 |v::r,i,s,hn,h,hs=>by
  rw[JaH] at hn;obtain⟨h1,h2⟩:=IP (n:=n) (i:=i) (by omega) v.2.1.2.2.2 s h hs;exact H5 r (i+1) _ (by omega) h1 h2
theorem IK (Vs:List VC):nN (dm Vs):=
 (H5 (n:=Vs.length) Vs 0 _ (by omega) (nN.up _) ⟨by simp[lL],fun y j h=>(by cases h)⟩).1
theorem BM:∀(Vs:List VC) (j k:Nat) (v:VC),(Vs.map (·.1)).Nodup→Vs[k]? =ζ v→fm j Vs v.1=((j+k:Nat):Int)
 |[],_,_,_,_,h=>by simp at h
 |u::r,j,0,v,_,h=>by
  obtain rfl:u=v:=by simpa using h
  rw[fm,if_pos rfl];simp
 |u::r,j,k+1,v,hn,h=>by
  have h1:r[k]? =ζ v:=by simpa using h
  rw[ι,List.nodup_cons] at hn;have bj:u.1≠v.1:=fun e=>hn.1 (e▸Α.2 ⟨v,ω h1,rfl⟩)
  rw[fm,if_neg bj,BM r (j+1) k v hn.2 h1];congr 1;omega
def Co (n:Nat) (R:Nat→Nat→Prop) (f:Nat→Int):Prop:=∀i k,i<n→k<n→R i k→f i=f k
structure uN (n:Nat) (R:Nat→Nat→Prop) (L:List Int):Prop where
 len:L.length=n
 ok:nN L
 co:Co n R (fun i=>L.getD i 0)
 fin:∀f:Nat→Int,Co n R f→∀i k,i<n→k<n→L.getD i 0=L.getD k 0→f i=f k
theorem uN.of_iff {n:Nat} {R R':Nat→Nat→Prop} {L:List Int} (h:uN n R L) (hR:∀f,Co n R f↔Co n R' f):uN n R' L:=
 ⟨h.len,h.ok,(hR _).1 h.co,fun f hf=>h.fin f ((hR f).2 hf)⟩
theorem uN.up (n:Nat):uN n (fun _ _=>False) (lL n):=by
 refine⟨by simp[lL],nN.up n,fun i k _ _ h=>h.elim,fun f _ i k hi hk e=>?_⟩
 rw[tH n i hi,tH n k hk] at e;rw[Int.ofNat_inj.1 e]
theorem Ah {a b x:Int} (h:x=a∨x=b):jf a b x=min a b:=if_pos h
theorem GG {a b x:Int} (h:¬(x=a∨x=b)):jf a b x=x:=if_neg h
theorem LW (a b:Int):min a b=a∨min a b=b:=by omega
theorem uN.join {n p q:Nat} {R:Nat→Nat→Prop} {L:List Int} (h:uN n R L) (hp:p<n) (hq:q<n):
 uN n (fun i k=>R i k∨(i=p∧k=q)) (cR L (L.getD p 0) (L.getD q 0)):=by
 have hl:=h.len;have hg:∀i,i<n→(cR L (L.getD p 0) (L.getD q 0)).getD i 0=jf (L.getD p 0) (L.getD q 0) (L.getD i 0):=fun i hi=>pR L _ _ (by omega)
 refine⟨by rw[kN];exact hl,h.ok.join (by omega) (by omega),?_,?_⟩
 ·rintro i k hi hk (hr|⟨rfl,rfl⟩)
  ·show(cR L _ _).getD i 0=(cR L _ _).getD k 0
   rw[hg i hi,hg k hk];exact congrArg _ (h.co i k hi hk hr)
  ·show(cR L _ _).getD i 0=(cR L _ _).getD k 0
   rw[hg i hi,hg k hk,Ah (.inl rfl),Ah (.inr rfl)]
 ·intro f hf i k hi hk e;rw[hg i hi,hg k hk] at e;have oH:Co n R f:=fun a b ha hb hr=>hf a b ha hb (.inl hr)
  have hpq:f p=f q:=hf p q hp hq (.inr ⟨rfl,rfl⟩)
  have yes:∀j,j<n→(L.getD j 0=L.getD p 0∨L.getD j 0=L.getD q 0)→f j=f p:=by
   rintro j hj (e|e)
   ·exact h.fin f oH j p hj hp e
   ·exact(h.fin f oH j q hj hq e).trans hpq.symm
  by_cases h1:L.getD i 0=L.getD p 0∨L.getD i 0=L.getD q 0
  ·by_cases h2:L.getD k 0=L.getD p 0∨L.getD k 0=L.getD q 0
   ·rw[yes i hi h1,yes k hk h2]
   ·rw[Ah h1,GG h2] at e;exact absurd (by rw[←e];exact LW _ _) h2
  ·by_cases h2:L.getD k 0=L.getD p 0∨L.getD k 0=L.getD q 0
   ·rw[Ah h2,GG h1] at e;exact absurd (by rw[e];exact LW _ _) h1
   ·rw[GG h1,GG h2] at e;exact h.fin f oH i k hi hk e
theorem uN.le {n:Nat} {R:Nat→Nat→Prop} {L L':List Int} (h:uN n R L) (k:uN n R L') {i:Nat} (hi:i<n):L'.getD i 0≤L.getD i 0:=by
 obtain⟨h0,h1,h2⟩:=h.ok i (by rw[h.len];exact hi);obtain⟨x,hx⟩:∃x:Nat,L.getD i 0=(x:Int):=⟨(L.getD i 0).toNat,by omega⟩
 rw[hx] at h1 h2 ⊢;rw[Jbn] at h2;have Pv:x<n:=by omega
 have e:=h.fin _ k.co x i Pv hi (by rw[h2,hx]);obtain⟨k0,k1,k2⟩:=k.ok x (by rw[k.len];exact Pv);omega
theorem uN.uniq {n:Nat} {R:Nat→Nat→Prop} {L L':List Int} (h:uN n R L) (k:uN n R L'):L=L':=by
 refine List.ext_getElem (by rw[h.len,k.len]) fun i h1 h2=>?_
 have hi:i<n:=by rw[←h.len];exact h1
 have e1:=h.le k hi;have e2:=k.le h hi;have e:L.getD i 0=L'.getD i 0:=by omega
 rw[χ,χ,θ h1,θ h2] at e;exact e
def Cu (P:List (Nat × Nat)) (L:List Int):List Int:=P.foldl (fun L e=>cR L (L.getD e.1 0) (L.getD e.2 0)) L
theorem tt {n:Nat}:∀(P:List (Nat × Nat)) (R:Nat→Nat→Prop) (L:List Int),(∀e∈P,e.1<n∧e.2<n)→uN n R L→uN n (fun i k=>R i k∨(i,k)∈P) (Cu P L)
 |[],R,L,_,h=>h.of_iff fun f=>by simp[Co]
 |e::P,R,L,hP,h=>by
  have h0:=hP e (Jai ..)
  refine(tt P _ _ (fun x hx=>hP x (Jad _ hx)) (h.join h0.1 h0.2)).of_iff fun f=>?_
  constructor
  ·rintro hf i k hi hk (hr|hm)
   ·exact hf i k hi hk (.inl (.inl hr))
   ·rcases Η.1 hm with hm|hm
    ·exact hf i k hi hk (.inl (.inr ⟨congrArg Prod.fst hm,congrArg Prod.snd hm⟩))
    ·exact hf i k hi hk (.inr hm)
  ·rintro hf i k hi hk ((hr|⟨rfl,rfl⟩)|hm)
   ·exact hf i k hi hk (.inl hr)
   ·exact hf _ _ hi hk (.inr (Jai ..))
   ·exact hf i k hi hk (.inr (Jad _ hm))
def Pj (Vs:List VC) (i:Nat) (y:I2):Prop:=∃v,Vs[i]? =ζ v∧∃x∈v.2.1.2.2.2,y=(x.1,x.2.1)
def Sh (Vs:List VC) (i k:Nat):Prop:=∃y,Pj Vs i y∧Pj Vs k y
structure Met (n:Nat) (T:Nat→I2→Prop) (s:St):Prop where
 lab:uN n (fun i k=>∃y,T i y∧T k y) s.1
 yes:∀y j,s.2 y=ζ j→T j y
 no:∀y,s.2 y=ε→∀i,¬T i y
theorem Met.step {n i:Nat} {T:Nat→I2→Prop} {s:St} (h:Met n T s) (ok:ql n s) (hi:i<n) (x:D):Met n (fun k y=>T k y∨(k=i∧y=(x.1,x.2.1))) (jr i s x):=by
 unfold jr;split
 ·rename_i j hj;have hT:=h.yes _ _ hj;have nT:=ok.lt _ _ hj
  refine⟨(h.lab.join hi nT).of_iff fun f=>?_,fun y k hy=>.inl (h.yes y k hy),?_⟩
  ·constructor
   ·rintro hf a b ha hb ⟨y,h1,h2⟩;have ur:f i=f j:=hf i j hi nT (.inr ⟨rfl,rfl⟩);rcases h1 with h1|⟨rfl,rfl⟩<;>rcases h2 with h2|⟨rfl,e2⟩
    ·exact hf a b ha hb (.inl ⟨y,h1,h2⟩)
    ·subst e2;rw[ur];exact hf a j ha nT (.inl ⟨_,h1,hT⟩)
    ·rw[ur];exact(hf b j hb nT (.inl ⟨_,h2,hT⟩)).symm
    ·rfl
   ·rintro hf a b ha hb (⟨y,h1,h2⟩|⟨rfl,rfl⟩)
    ·exact hf a b ha hb ⟨y,.inl h1,.inl h2⟩
    ·exact hf _ _ ha hb ⟨_,.inr ⟨rfl,rfl⟩,.inl hT⟩
  ·rintro y hy k (h1|⟨rfl,rfl⟩)
   ·exact h.no y hy k h1
   ·simp only at hy;rw[hj] at hy;cases hy
 ·rename_i hj;have hT:=h.no _ hj
  refine⟨h.lab.of_iff fun f=>?_,fun y k hy=>?_,fun y hy k hk=>?_⟩
  ·constructor
   ·rintro hf a b ha hb ⟨y,h1,h2⟩;rcases h1 with h1|⟨rfl,e1⟩<;>rcases h2 with h2|⟨rfl,e2⟩
    ·exact hf a b ha hb ⟨y,h1,h2⟩
    ·subst e2;exact absurd h1 (hT a)
    ·subst e1;exact absurd h2 (hT b)
    ·rfl
   ·rintro hf a b ha hb ⟨y,h1,h2⟩;exact hf a b ha hb ⟨y,.inl h1,.inl h2⟩
  ·simp only at hy;split at hy
   ·rename_i e;exact .inr ⟨(Μ hy).symm,e⟩
   ·exact .inl (h.yes y k hy)
  ·simp only at hy;split at hy
   ·cases hy
   ·rename_i e;rcases hk with hk|⟨_,hk⟩
    ·exact h.no y hy k hk
    ·exact e hk
theorem Met.congr {n:Nat} {T T':Nat→I2→Prop} {s:St} (h:Met n T s) (e:∀k y,T k y↔T' k y):Met n T' s:=by
 have:T=T':=by
  funext k y
  exact propext (e k y)
 exact this▸h
theorem CM {n i:Nat} (hi:i<n):∀(R:List D) (T:Nat→I2→Prop) (s:St),Met n T s→ql n s→Met n (fun k y=>T k y∨(k=i∧∃x∈R,y=(x.1,x.2.1))) (R.foldl (jr i) s)
 |[],T,s,h,_=>h.congr fun k y=>by simp
 |x::R,T,s,h,ok=>(CM hi R _ _ (h.step ok hi x) (ok.step hi x)).congr fun k y=>by
   simp only[Η,exists_eq_or_imp];constructor
   ·rintro ((h1|⟨h1,h2⟩)|⟨h1,h2⟩)
    ·exact .inl h1
    ·exact .inr ⟨h1,.inl h2⟩
    ·exact .inr ⟨h1,.inr h2⟩
   ·rintro (h1|⟨h1,h2|h2⟩)
    ·exact .inl (.inl h1)
    ·exact .inl (.inr ⟨h1,h2⟩)
    ·exact .inr ⟨h1,h2⟩
theorem GP {n i:Nat} (hi:i<n):∀(R:List D) (s:St),ql n s→ql n (R.foldl (jr i) s)
 |[],s,hs=>hs
 |x::R,s,hs=>GP hi R _ (hs.step hi x)
theorem CT {n:Nat}:∀(Vs:List VC) (i:Nat) (T:Nat→I2→Prop) (s:St),i+Vs.length≤n→Met n T s→ql n s→
 Met n (fun k y=>T k y∨∃j,k=i+j∧Pj Vs j y) (ta i Vs s)
 |[],i,T,s,_,h,_=>h.congr fun k y=>by
   constructor
   ·exact .inl
   ·rintro (h1|⟨j,_,v,hv,_⟩)
    ·exact h1
    ·cases hv
 |v::r,i,T,s,hn,h,ok=>by
  rw[JaH] at hn;have hi:i<n:=by omega
  refine(CT r (i+1) _ _ (by omega) (CM hi v.2.1.2.2.2 T s h ok) (GP hi _ s ok)).congr fun k y=>?_
  constructor
  ·rintro ((h1|⟨h1,h2⟩)|⟨j,h1,v',h2,h3⟩)
   ·exact .inl h1
   ·exact .inr ⟨0,by omega,v,rfl,h2⟩
   ·exact .inr ⟨j+1,by omega,v',by simpa using h2,h3⟩
  ·rintro (h1|⟨j,h1,v',h2,h3⟩)
   ·exact .inl (.inl h1)
   ·cases j with
    |zero=>
     obtain rfl:v=v':=by simpa using h2
     exact .inl (.inr ⟨by omega,h3⟩)
    |succ j=>exact .inr ⟨j,by omega,v',by simpa using h2,h3⟩
theorem mz (Vs:List VC):uN Vs.length (Sh Vs) (dm Vs):=by
 have h0:Met Vs.length (fun _ _=>False) ((lL Vs.length,fun _=>ε):St):=
  ⟨(uN.up _).of_iff fun f=>by simp[Co],fun y j h=>(by cases h),fun _ _ _ h=>h⟩
 have h1:=(CT Vs 0 _ _ (by omega) h0 ⟨by simp[lL],fun y j h=>(by cases h)⟩).lab;refine h1.of_iff fun f=>?_
 constructor
 ·rintro hf a b ha hb ⟨y,h1,h2⟩;exact hf a b ha hb ⟨y,.inr ⟨a,by omega,h1⟩,.inr ⟨b,by omega,h2⟩⟩
 ·rintro hf a b ha hb ⟨y,h1|⟨j,h1,h3⟩,h2⟩
  ·exact h1.elim
  ·rcases h2 with h2|⟨j2,h2,h4⟩
   ·exact h2.elim
   ·obtain rfl:a=j:=by omega
    obtain rfl:b=j2:=by omega
    exact hf a b ha hb ⟨y,h3,h4⟩
theorem zA {Vs Ws:List VC} (hl:Ws.length=Vs.length) (h:∀i y,Pj Ws i y↔Pj Vs i y):dm Ws=dm Vs:=by
 have h1:=mz Ws;rw[hl] at h1;refine h1.uniq ((mz Vs).of_iff fun f=>?_)
 have:Sh Vs=Sh Ws:=by
  funext i k
  refine propext ⟨?_,?_⟩<;>rintro⟨y,a,b⟩
  ·exact⟨y,(h i y).2 a,(h k y).2 b⟩
  ·exact⟨y,(h i y).1 a,(h k y).1 b⟩
 rw[this]
def cv (L:List Int) (i:Nat):Bool:=L.getD i 0==(i:Int)
def fg (L:List Int):Nat:=(Ω L.length).countP (cv L)
theorem Wd (n:Nat):fg (lL n)=n:=by
 have hl:(lL n).length=n:=by simp[lL]
 unfold fg;rw[hl]
 have:∀m,m≤n→(Ω m).countP (cv (lL n))=m:=fun m=>by
  induction m with
  |zero=>intro _;rfl
  |succ k ih=>
   intro hk;rw[List.range_succ,List.countP_append,ih (by omega)]
   have:cv (lL n) k=τ:=by rw[cv,tH n k (by omega)];simp
   simp[this]
 exact this n (Δ _)
theorem PK (p q:Nat→Bool) (m:Nat) (hm:p m=τ) (hq:q m=ρ) (h:∀i,i≠m→q i=p i):∀n,(Ω n).countP p=(Ω n).countP q+if m<n then 1 else 0:=by
 intro n;exact fG q p m hq hm (fun j hj=>(h j hj).symm) n
theorem DN {L:List Int} (hL:nN L) {p q:Nat} (hp:p<L.length) (hq:q<L.length):
 fg (cR L (L.getD p 0) (L.getD q 0))+(if L.getD p 0=L.getD q 0 then 0 else 1)=fg L:=by
 obtain⟨a0,a1,a2⟩:=hL p hp;obtain⟨b0,b1,b2⟩:=hL q hq;obtain⟨a,ga⟩:∃a:Nat,L.getD p 0=(a:Int):=⟨(L.getD p 0).toNat,by omega⟩
 obtain⟨b,gb⟩:∃b:Nat,L.getD q 0=(b:Int):=⟨(L.getD q 0).toNat,by omega⟩
 rw[ga] at a1 a2 ⊢;rw[gb] at b1 b2 ⊢;rw[Jbn] at a2 b2;unfold fg;rw[kN];have hr:∀i,i<L.length→cv (cR L (a:Int) (b:Int)) i=(jf a b (L.getD i 0)==(i:Int)):=fun i hi=>by rw[cv,pR L _ _ hi]
 by_cases e:(a:Int)=b
 ·rw[if_pos e,Jac];refine List.countP_congr fun i hi=>?_
  rw[hr i (List.mem_range.1 hi),cv];rw[←e,show jf (a:Int) a (L.getD i 0)=L.getD i 0 by unfold jf;split<;>omega]
 ·rw[if_neg e]
  have key:∀m:Nat,m<L.length→(m:Int)=max (a:Int) b→L.getD m 0=(m:Int)→(Ω L.length).countP (cv (cR L (a:Int) (b:Int)))+1=(Ω L.length).countP (cv L):=fun m hm hmx Ee=>by
   have hz:cv L m=τ:=by rw[cv,Ee];simp
   have h1:(Ω L.length).countP (cv (cR L (a:Int) (b:Int)))=(Ω L.length).countP (fun i=>cv L i && decide (i≠m)):=by
    refine List.countP_congr fun i hi=>?_
    have hi:=List.mem_range.1 hi;rw[hr i hi];obtain⟨c0,c1,c2⟩:=hL i hi;simp only[cv,beq_iff_eq,Jar,decide_eq_true_eq];unfold jf;split
    ·rename_i hc;constructor
     ·intro h1;have h2:((min (a:Int) b))=i:=h1;rcases (by omega:a=i∨b=i) with rfl|rfl
      ·exact⟨a2,by omega⟩
      ·exact⟨b2,by omega⟩
     ·rintro⟨h1,h2⟩;rw[h1] at hc;omega
    ·rename_i hc;constructor
     ·intro h1
      refine⟨h1,?_⟩
      rintro rfl;rw[Ee] at hc;omega
     ·exact fun h=>h.1
   rw[h1];have h2:=PK (cv L) (fun i=>cv L i && decide (i≠m)) m hz (by simp) (fun i hi=>by simp[hi]) L.length;rw[if_pos hm] at h2;exact h2.symm
  by_cases s8:a<b
  ·exact key b (by omega) (by omega) b2
  ·exact key a (by omega) (by omega) a2
def rk (L:List Int) (r:Nat):Nat:=(Ω r).countP (cv L)
def iX (L:List Int) (j:Nat):List Nat:=(Ω j).filter (cv L)
def kv (L:List Int) (N:Nat→I2) (j r:Nat):List I2:=((Ω j).filter fun k=>L.getD k 0==(r:Int)).map N
def fo (L:List Int) (N:Nat→I2) (j:Nat):List (List I2):=(iX L j).map (kv L N j)
def KC (Vs:List VC) (k:Nat):I2:=(Vs.map (·.1)).getD k (0,0)
def EL (Vs:List VC):List (List I2):=fo (dm Vs) (KC Vs) Vs.length
theorem nC (L:List Int) (j:Nat):(iX L j).length=rk L j:=by rw[iX,rk,List.countP_eq_length_filter]
theorem wD (L:List Int) (N:Nat→I2) (j:Nat):(fo L N j).length=rk L j:=by rw[fo,Ρ,nC]
theorem lT (L:List Int) (j:Nat):iX L (j+1)=iX L j++(if cv L j then[j] else[]):=by
 unfold iX;rw[List.range_succ,List.filter_append];cases h:cv L j<;>simp[h]
theorem Ag (L:List Int) (j:Nat):rk L (j+1)=rk L j+(if cv L j then 1 else 0):=by
 rw[←nC,←nC,lT,Ε];cases cv L j<;>rfl
theorem yO {L:List Int} {l:Nat} (hl:cv L l=τ):∀(j:Nat),l<j→(iX L j)[rk L l]? =ζ l
 |0,h=>by omega
 |j+1,h=>by
  rw[lT]
  by_cases e:l=j
  ·subst e;rw[hl,←nC,Jal (Δ _),JaP];rfl
  ·have h1:=yO hl j (by omega);rw[Jab (ν.1 h1).1,h1]
theorem Kq {L:List Int} {j r:Nat} (h:r∈iX L j):r<j∧cv L r=τ:=by
 rw[iX,JaC,List.mem_range] at h;exact h
theorem JC {α:Type} {l:List α} (h:l.Nodup) {i j:Nat} (hi:i<l.length) (hj:j<l.length) (e:l[i]=l[j]):i=j:=by
 have h1:=List.pairwise_iff_getElem.1 h;rcases Nat.lt_trichotomy i j with h2|h2|h2
 ·exact absurd e (h1 i j hi hj h2)
 ·exact h2
 ·exact absurd e.symm (h1 j i hj hi h2)
theorem Af (L:List Int) (j:Nat):(iX L j).Nodup:=List.Nodup.sublist List.filter_sublist List.nodup_range
theorem np (L:List Int) (N:Nat→I2) (j r:Nat):kv L N (j+1) r=kv L N j r++(if L.getD j 0=(r:Int) then[N j] else[]):=by
 unfold kv;rw[List.range_succ,List.filter_append,JaU]
 by_cases h:L.getD j 0=(r:Int)
 ·rw[if_pos h];simp only[Jbm,h,beq_self_eq_true,if_true,List.filter_nil,ι,π]
 ·rw[if_neg h];have h1:(L.getD j 0==(r:Int))=ρ:=beq_eq_false_iff_ne.2 h;simp only[Jbm,h1,Bool.false_eq_true,if_false,List.filter_nil,π]
theorem Ey {L:List Int} (hL:nN L) (N:Nat→I2) {j:Nat} (hj:j<L.length) (hr:L.getD j 0=(j:Int)):
 fo L N (j+1)=(fo L N j++[[]]).set (rk L j) [N j]:=by
 have hb:cv L j=τ:=by rw[cv,hr];simp
 have hl:=wD L N j;rw[fo,lT,hb,if_pos rfl,JaU,List.set_append_right _ _ (by omega),hl,JaP]
 have e1:(iX L j).map (kv L N (j+1))=fo L N j:=by
  refine List.map_congr_left fun r h=>?_
  have:=(Kq h).1
  rw[np,hr,if_neg (by omega),Jbi]
 have e2:kv L N (j+1) j=[N j]:=by
  rw[np,hr,if_pos rfl]
  have:kv L N j j=[]:=by
   unfold kv;rw[List.filter_eq_nil_iff.2 fun k hk=>?_]
   ·rfl
   ·have hk:=List.mem_range.1 hk
    have:=(hL k (by omega)).2.1
    simp only[beq_iff_eq];omega
  rw[this];rfl
 rw[e1];simp[e2]
theorem FQ {L:List Int} (hL:nN L) (N:Nat→I2) {j:Nat} (hj:j<L.length) {l:Nat} (hr:L.getD j 0=(l:Int)) (SR:l≠j):
 l<j∧cv L l=τ∧(fo L N j)[rk L l]? =ζ (kv L N j l)∧fo L N (j+1)=(fo L N j).set (rk L l) (kv L N j l++[N j]):=by
 obtain⟨h0,h1,h2⟩:=hL j hj;rw[hr] at h1 h2;rw[Jbn] at h2;have dz:l<j:=by omega
 have hb:cv L l=τ:=by rw[cv,h2];simp
 have Zv:cv L j=ρ:=by
  rw[cv,hr];exact beq_eq_false_iff_ne.2 (by omega)
 have SU:=yO hb j dz;have aaO:(fo L N j)[rk L l]? =ζ (kv L N j l):=by rw[fo,Ψ,SU];rfl
 refine⟨dz,hb,aaO,?_⟩
 have er:iX L (j+1)=iX L j:=by rw[lT,Zv];simp
 refine List.ext_getElem? fun q=>?_
 rw[fo,er,Ψ,Jbz]
 by_cases hq:rk L l=q
 ·subst hq;rw[if_pos rfl,SU,if_pos (ν.1 aaO).1];show ζ (kv L N (j+1) l)=_;rw[np,hr,if_pos rfl]
 ·rw[if_neg hq,fo,Ψ];cases hg:(iX L j)[q]? with
  |none=>rfl
  |some r=>
   show ζ (kv L N (j+1) r)=ζ (kv L N j r)
   have bj:l≠r:=by
    rintro rfl;refine hq ?_;have h5:=ν.1 SU;have h6:=ν.1 hg;exact JC (Af L j) h5.1 h6.1 (h5.2.trans h6.2.symm)
   rw[np,hr,if_neg (by omega),Jbi]
def xS (L:List Int) (j:Nat) (x:Int):Option Nat:=if 0≤x∧x.toNat<j∧cv L x.toNat=τ then ζ (rk L x.toNat) else ε
theorem zK {L:List Int} {j l:Nat} (hl:l<j) (hb:cv L l=τ):xS L j (l:Int)=ζ (rk L l):=by
 unfold xS;rw[if_pos ⟨by omega,by simpa using hl,by simpa using hb⟩,Jbn]
theorem JM {L:List Int} {j:Nat} (hb:cv L j=τ):(fun x=>if x=(j:Int) then ζ (rk L j) else xS L j x)=xS L (j+1):=by
 funext x
 unfold xS
 by_cases h:x=(j:Int)
 ·subst h;rw[if_pos rfl,if_pos ⟨by omega,by simp,by simpa using hb⟩,Jbn]
 ·rw[if_neg h]
  by_cases h0:0≤x
  ·have:(x.toNat<j)=(x.toNat<j+1):=by
    have:x.toNat≠j:=by omega
    simp only[eq_iff_iff];omega
   simp only[this]
  ·simp[h0]
theorem QJ {L:List Int} {j:Nat} (hb:cv L j=ρ):xS L j=xS L (j+1):=by
 funext x
 unfold xS
 by_cases h:x=(j:Int)
 ·subst h;simp[hb]
 ·by_cases h0:0≤x
  ·have:(x.toNat<j)=(x.toNat<j+1):=by
    have:x.toNat≠j:=by omega
    simp only[eq_iff_iff];omega
   simp only[this]
  ·simp[h0]
def mm (L:List Int) (j:Nat) (x:Int):Option ψ:=(xS L j x).map fun p:Nat=>J (p:Int)
section
variable {α:Type}
abbrev Rw (α:Type):=Option Κ × Nat × List α
def kX (x:Rw α):ψ:=γ x.1 x.2.2.length x.2.1
def Uw (x:Rw α):List ψ:=[kX x]
theorem Aw (x:Rw α):(Uw x).length=1:=rfl
structure RowsIn (W:ο) (lo:Nat) (TR TE:Υ) (s:Nat) (f:α→List ψ) (A:Option Κ) (n c:Nat) (X:List (Rw α)):Prop where
 row:W.ownsRow lo TR 1 (γ A n c) n (ah Uw X)
 len:X.length=n
 one:∀x∈X,W.ownsRow lo TE s (kX x) x.2.2.length (ah f x.2.2)
 ne:∀(i j:Nat) (x y:Rw α) (a b:Κ),i≠j→X[i]? =ζ x→X[j]? =ζ y→x.1=ζ a→y.1=ζ b→a.block≠b.block
variable {W W':ο} {lo:Nat} {TR TE:Υ} {s:Nat} {f:α→List ψ} {A:Option Κ} {n c:Nat} {X:List (Rw α)}
theorem RowsIn.up (h:RowsIn W lo TR TE s f A n c X) (hb:σ W.heap.size W W'):RowsIn W' lo TR TE s f A n c X:=
 ⟨bo h.row hb,h.len,fun x hx=>bo (h.one x hx) hb,h.ne⟩
theorem RowsIn.al (h:RowsIn W lo TR TE s f A n c X) (o:Obj):RowsIn (W.alloc o) lo TR TE s f A n c X:=h.up (az W o)
theorem RowsIn.dr (h:RowsIn W lo TR TE s f A n c X):RowsIn W.drew lo TR TE s f A n c X:=h.up ((Θ _ _).drew)
theorem RowsIn.bl (h:RowsIn W lo TR TE s f A n c X) (hb:σ W.heap.size W W'):RowsIn W' lo TR TE s f A n c X:=h.up hb
theorem RowsIn.nil_ (W:ο) (lo:Nat):RowsIn W lo TR TE s f ε 0 0 ([]:List (Rw α)):=
 ⟨World.ownsRow_nil W lo TR 1,rfl,fun x hx=>(by cases hx),fun i j x y a b _ h=>(by simp at h)⟩
theorem jM {W:ο} {l1 l2 k1 k2 n1 n2 g:Nat} {T1 T2:Υ} {v1 v2:ψ} {xs ys:List ψ} (h:W.ownsRow l1 T1 k1 v1 n1 xs) (k:W.ownsRow l2 T2 k2 v2 n2 ys) (hT:T1≠T2) (e1:v1.ownBlock=ζ g) (e2:v2.ownBlock=ζ g):False:=by
 rcases h.2 with⟨rfl,h2⟩|⟨g',cap,cur,rfl,hb,hg,-⟩
 ·cases e1
 rcases k.2 with⟨rfl,k2⟩|⟨g2,aof,anB,rfl,aP,iZ,-⟩
 ·cases e2
 obtain rfl:g'=g:=Μ e1;obtain rfl:g2=g':=Μ e2;rw[hg] at iZ;injection iZ with q
 injection q with q1 q2
 exact hT q2
theorem o7 (x:Rw α):(kX x).ownBlock=x.1.map (·.block):=by cases h:x.1<;>simp[kX,h,Value.ownBlock]
theorem RowsIn.far (h:RowsIn W lo TR TE s f A n c X) {r:Option Nat} (hg:W.grownBy W' r) (h1:∀g,r=ζ g→(Ο A n c).ownBlock≠ζ g) (h2:∀x∈X,∀g,r=ζ g→(kX x).ownBlock≠ζ g):RowsIn W' lo TR TE s f A n c X:=by
 refine⟨h.row.kept hg ?_,h.len,fun x hx=>(h.one x hx).kept hg ?_,h.ne⟩
 ·cases r with
  |none=>cases hh:(Ο A n c).ownBlock<;>simp
  |some g=>exact .inr (h1 g rfl)
 ·cases r with
  |none=>cases hh:(kX x).ownBlock<;>simp
  |some g=>exact .inr (h2 x hx g rfl)
theorem RowsIn.push_nil {P:JaE} (h:RowsIn W lo TR TE s f A n c X) (t ty:Υ) (i:TypeInfo) (z:ψ) (ht:P.underlying t=ζ (.slice TR)) (hi:P.info? TR=ζ i) (hz:i.zero=ζ z) (fK:i.size=1) (vA:i.bytes=24) (vK:z.cells.size=1)
 (hT:TR≠TE) (hn:n≤1000000) (fw:lo≤W.heap.size) (BB:Nat) (A1:Option Κ) (c1:Nat) (hr:bg W BB 1 A1 1 c1 [γ ε 0 0]):
 ∃A' c' W',(JaY #[t,t] ty #[γ A n c,γ A1 1 c1]).run P W=.ok (γ A' (n+1) c') W'∧RowsIn W' lo TR TE s f A' (n+1) c' (X++[(ε,0,[])])∧σ lo W W'∧W.grownBy W' (Ο A n c).ownBlock:=by
 obtain⟨a1,rfl⟩:∃a1,A1=ζ a1:=by
  cases A1 with
  |none=>have:=(hr.none_ rfl).1;omega
  |some a1=>exact⟨a1,rfl⟩
 obtain⟨v',W2,bV,gh,hg,FZ,hb⟩:=run_append_own_at (P:=P) W lo t ty TR i z 1 24 ht hi hz fK vA vK (by decide) _ n _ h.row a1 1 c1 _ hr.len (hr.cell a1 rfl) (by simp[Τ]) (by unfold Jap;omega) (by omega) fw;have hk:∀k,(Ο A n c).ownBlock=ζ k→lo≤k:=fun k hk=>(h.row.lt k hk).1
 obtain⟨A',c',rfl,_⟩:=bg.of_own gh;have e:ah Uw X++[Ο ε 0 0]=ah Uw (X++[((ε,0,[]):Rw α)]):=by rw[bY];rfl
 rw[e] at gh
 refine⟨A',c',W2,bV,⟨gh,by simp[h.len],fun x hx=>?_,fun i j x y a b ur hx hy Ri hyb=>?_⟩,(Θ lo W).grown hg fw hk,hg⟩
 ·rcases Jan.1 hx with hx|hx
  ·refine(h.one x hx).kept hg ?_
   cases hv:(kX x).ownBlock with
   |none=>exact .inl rfl
   |some g=>exact .inr fun q=>jM h.row (h.one x hx) hT q.symm hv
  ·obtain rfl:=Jao.1 hx;exact World.ownsRow_nil _ _ _ _
 ·have get:∀(i:Nat) (x:Rw α) (a:Κ),(X++[((ε,0,[]):Rw α)])[i]? =ζ x→x.1=ζ a→X[i]? =ζ x:=fun i x a hx ha=>by
   by_cases hi:i<X.length
   ·rw[Jab hi] at hx;exact hx
   ·rw[Jal (by omega)] at hx;have hm:=ω hx;obtain rfl:=Jao.1 hm;cases ha
  exact h.ne i j x y a b ur (get i x a hx Ri) (get j y b hy hyb) Ri hyb
theorem RowsIn.grow {P:JaE} (h:RowsIn W lo TR TE s f A n c X) {p:Nat} {x:Rw α} (hx:X[p]? =ζ x) (hs:∀y,(f y).length=s) (t ty:Υ) (i:TypeInfo) (z:ψ) (bytes:Nat) (ht:P.underlying t=ζ (.slice TE)) (hi:P.info? TE=ζ i) (hz:i.zero=ζ z) (fK:i.size=s) (vA:i.bytes=bytes) (vK:z.cells.size=s) (Ye:0<s)
 (hT:TR≠TE) (hn:x.2.2.length≤1000000) (agP:bytes≤100) (fw:lo≤W.heap.size) (BB:Nat) (A1:Option Κ) (c1:Nat) (y:α) (hr:bg W BB s A1 1 c1 (f y)) (h1:∀u∈f y,u.oneCell'=τ):
 ∃A' c' W',(JaY #[t,t] ty #[kX x,γ A1 1 c1]).run P W=.ok (kX (A',c',x.2.2++[y])) W'∧σ lo W W'∧W.grownBy W' (kX x).ownBlock∧
  ∀W2,σ W'.heap.size W' W2→∃g,A=ζ ⟨g,0,ε⟩∧lo≤g∧(∃cs,Whole W2 g TR cs)∧W2.cell? ⟨g,p,ε⟩=ζ (kX x)∧W2.frozen? ⟨g,p,ε⟩=ρ∧RowsIn (W2.setCell ⟨g,p,ε⟩ (kX (A',c',x.2.2++[y]))) lo TR TE s f A n c (X.set p (A',c',x.2.2++[y])):=by
 obtain⟨a1,rfl⟩:∃a1,A1=ζ a1:=by
  cases A1 with
  |none=>have:=(hr.none_ rfl).1;omega
  |some a1=>exact⟨a1,rfl⟩
 have hox:=h.one x (ω hx);have hp:p<n:=by have:=(ν.1 hx).1;have:=h.len;omega
 have Vd:(x.2.2.length+1)*bytes≤140737488355328:=Λ (Nat.mul_le_mul_left _ agP) (by omega);obtain⟨v',W1,bV,gh,hg,FZ,Pe⟩:=run_append_own_at (P:=P) W lo t ty TE i z s bytes ht hi hz fK vA vK Ye _ _ _ hox a1 1 c1 _ hr.len (hr.cell a1 rfl) h1 (by unfold Jap;omega) Vd fw;have hk:∀k,(kX x).ownBlock=ζ k→lo≤k:=fun k hk=>(hox.lt k hk).1
 obtain⟨A',c',rfl,_⟩:=bg.of_own gh
 have e:ah f x.2.2++f y=ah f (x.2.2++[y]):=by
  rw[bY];simp[ah]
 rw[e] at gh
 have aa3:W1.ownsRow lo TR 1 (γ A n c) n (ah Uw X):=h.row.kept hg (by
  cases hv:(Ο A n c).ownBlock with
  |none=>exact .inl rfl
  |some g=>exact .inr fun q=>jM h.row hox hT hv q.symm)
 have Vg:kX (A',c',x.2.2++[y])=γ A' (x.2.2.length+1) c':=by simp[kX]
 refine⟨A',c',W1,by rw[Vg];exact bV,(Θ lo W).grown hg fw hk,hg,fun W2 AW=>?_⟩
 have TF:=bo aa3 AW;obtain⟨g,junk,rfl,hg0,hw,hc,hf,Zw⟩:=eZ (i:=0) (y:=(A',c',x.2.2++[y])) (u:=kX (A',c',x.2.2++[y])) Aw TF hx hp (by decide) rfl;simp only[Nat.mul_one,Jac] at hc hf Zw
 refine⟨g,rfl,hg0,⟨_,hw⟩,hc,hf,⟨Zw,by simp[h.len],fun u hu=>?_,fun i j u v a b ur hu hv PF Bq=>?_⟩⟩
 ·have YH:∀v m ys,W1.ownsRow lo TE s v m ys→(W2.setCell ⟨g,p,ε⟩ (kX (A',c',x.2.2++[y]))).ownsRow lo TE s v m ys:=fun v m ys hv=>by
   have MA:=bo hv AW;refine aT MA (fun q=>?_) _;exact jM TF MA hT rfl q.symm
  obtain⟨q,hq⟩:=List.getElem?_of_mem hu;rw[Jbz] at hq;split at hq
  ·split at hq
   ·obtain rfl:=Μ hq;have h5:=YH _ _ _ gh;rw[←Vg] at h5;have e6:(x.2.2++[y]).length=x.2.2.length+1:=by simp
    show(W2.setCell ⟨g,p,ε⟩ (kX (A',c',x.2.2++[y]))).ownsRow lo TE s (kX (A',c',x.2.2++[y])) (x.2.2++[y]).length (ah f (x.2.2++[y]))
    rw[e6];exact h5
   ·cases hq
  ·rename_i bj;refine YH _ _ _ ((h.one u (ω hq)).kept hg ?_);cases hv:(kX u).ownBlock with
   |none=>exact .inl rfl
   |some gu=>
    refine .inr fun q2=>?_
    rw[o7] at hv q2;cases QE:u.1 with
    |none=>rw[QE] at hv;cases hv
    |some au=>
     cases jq:x.1 with
     |none=>rw[jq] at q2;cases q2
     |some ax=>
      rw[QE] at hv;rw[jq] at q2;refine h.ne p q x u ax au bj hx hq jq QE ?_;have h1:au.block=gu:=Μ hv;have h2:=Μ q2
      first|exact h2.symm.trans h1.symm|exact h2.trans h1.symm|(simp only at h2;omega)
 ·
  have old:∀(q:Nat) (u:Rw α) (a b:Κ),q≠p→X[q]? =ζ u→u.1=ζ a→A'=ζ b→a.block≠b.block:=fun q u a b hqp hq PF hAb s8=>by
   have SB:(Ο A' (x.2.2.length+1) c').ownBlock=ζ b.block:=by rw[hAb];rfl
   have dz:=(h.one u (ω hq)).lt a.block (by rw[o7,PF];rfl);rcases Pe with Pe|Pe
   ·rw[SB,o7] at Pe;cases jq:x.1 with
    |none=>rw[jq] at Pe;cases Pe
    |some ax=>
     rw[jq] at Pe;have h2:b.block=ax.block:=Μ Pe;exact h.ne q p u x a ax hqp hq hx PF jq (by rw[s8,h2])
   ·rw[SB] at Pe
    have:=Μ Pe
    omega
  rw[Jbz] at hu hv;split at hu
  ·rename_i hpi;split at hu
   ·split at hv
    ·rename_i hpj;omega
    ·rename_i hpj;obtain rfl:=Μ hu;exact fun q=>old j v b a (fun e=>hpj e.symm) hv Bq PF q.symm
   ·cases hu
  ·rename_i hpi;split at hv
   ·split at hv
    ·obtain rfl:=Μ hv;exact old i u a b (fun e=>hpi e.symm) hu PF Bq
    ·cases hv
   ·exact h.ne i j u v a b ur hu hv PF Bq
end
section
open Go.RowKit Go.Maps
section
variable {P:JaE} {t K e:Υ} {κ:Type} [DecidableEq κ] {k:FW P K κ} {b n:Nat} {f:κ→Option ψ} {w:ο} {x:κ} {ops:Array JaZ} {rest:List JaZ} {o:JaZ} {a:Act} {Q:Exit→Act→ο→Prop}
theorem de.get (h:de w k b n f) (ht:P.underlying t=ζ (.map K e)) {z:ψ} (hz:(zeroValue e).run P w=.ok z w) (hx:k.wf x):
 (Instr.lookup t (.map (ζ b)) (k.enc x) ρ).run P w=.ok ((f x).getD z) w:=by
 obtain⟨D,h1,h2⟩:=h;obtain⟨v,ps,bV,hv⟩:=World.ownsMap.lookup h1 k.keyed ht hz (zd:=.held z) (zp:=[]) rfl (k.key x hx);obtain⟨h3,h4⟩:=h2 x hx;have h5:=(Prod.mk.inj (Μ hv)).1;rw[h4 z] at h5;injection h5 with h5
 rw[bV,←h5]
theorem Dv {P:JaE} {ev:Jbd→ψ} {o:JaZ} {w w':ο} {t:Υ} {m x:Jbd} {key v:ψ} {b:Option Nat} (ho:o.op=.lookup t m x ρ) (hm:ev m=.map b) (hx:ev x=key)
 (bV:(Instr.lookup t (.map b) key ρ).run P w=.ok v w'):(JaX ev o).run P w=.ok (.value v) w':=by
 simp[JaX,ho,hm,hx,bV,Jbw]
theorem zj (hg:o.guard=ε) (m y:Jbd) (ho:o.op=.lookup t m y ρ) (hm:a.eval m=.map (ζ b)) (h:de w k b n f) (ht:P.underlying t=ζ (.map K e)) {z:ψ} (hz:(zeroValue e).run P w=.ok z w) (hx:k.wf x)
 (hy:a.eval y=k.enc x) (hK:JbI P ops Q rest (a.put o.dst ((f x).getD z)) w):JbI P ops Q (o::rest) a w:=by
 refine wpList_plain hg fun K' Wt=>?_
 unfold Oper.wp;rw[Dv ho hm hy (h.get ht hz hx)];exact Wt _ _ hK
end
end
section
open Go.RowKit Go.Maps
def zQ:FW Tryz.prog 3 Int where
 enc x:=.int .i64 x
 kl x:=.int .i64 x
 wf x:=(Lit.int .i64 x).wf=true
 keyed:=int_keyed Tryz.underlying3
 key x hx:=keyOf_int_mk Tryz.underlying3 hx
 inj x y _ _ h:=by injection h
 lit x hx:=(int_keyed Tryz.underlying3).key (keyOf_int_mk Tryz.underlying3 hx)
theorem Kl:(Tryz.prog.info? 121).map (fun i=>(i.zero,i.size,i.bytes))=some (some (.slice none 0 0),1,24):=by kernel_rfl
theorem OL:(Tryz.prog.info? 30).map (fun i=>(i.zero,i.size,i.bytes))=some (some (.agg #[.int .i64 0,.int .i64 0]),2,16):=by kernel_rfl
abbrev NC (W:World) (lo:Nat) (A:Option Addr) (n c:Nat) (X:List (Rw I2)):Prop:=RowsIn W lo 121 30 2 lS A n c X
theorem MV (L:List Int):mm L 0=fun _=>none:=by
 funext x
 unfold mm xS;rw[if_neg (by omega)];rfl
theorem Ns {W:World} {b n j:Nat} {L:List Int} (hb:cv L j=true) (h:de W zQ b n (fun y=>if y=(j:Int) then some (.int .i64 ((rk L j:Nat):Int)) else mm L j y)):de W zQ b n (mm L (j+1)):=by
 have e:mm L (j+1)=(fun y=>if y=(j:Int) then some (Value.int .i64 ((rk L j:Nat):Int)) else mm L j y):=by
  funext y
  unfold mm;rw[←JM hb];simp only;split<;>rfl
 rw[e];exact h
theorem Ru {j:Nat} {L:List Int} (hb:cv L j=false):mm L (j+1)=mm L j:=by
 unfold mm;rw[QJ hb]
theorem FV (n:Nat) (h:n≤1000000):zQ.wf (n:Int):=by
 have e1:IntKind.i64.min= -9223372036854775808:=by decide
 have e2:IntKind.i64.max=9223372036854775807:=by decide
 show(Lit.int .i64 (n:Int)).wf=true
 simp only[Lit.wf,e1,e2,Bool.and_eq_true,decide_eq_true_eq];omega
theorem Ia (x:I2):∀u∈lS x,u.oneCell'=true:=by simp[lS,Value.oneCell']
theorem zF (L:List Int) (N:Nat→I2) (X:List (Rw I2)) (j:Nat) (h:X.map (·.2.2)=fo L N j):X.length=rk L j:=by
 have:=congrArg List.length h
 rwa [List.length_map,wD] at this
theorem MT {W:World} {B B' n:Nat} {e:TypeId} {size:Nat} {v:Value} {xs:List Value} (h:W.ownsRow B e size v n xs) (hB:B'≤B):W.ownsRow B' e size v n xs:=by
 refine⟨h.1,?_⟩
 rcases h.2 with hn|⟨g,cap,cur,h1,hb,rest⟩
 ·exact .inl hn
 ·exact .inr ⟨g,cap,cur,h1,Nat.le_trans hB hb,rest⟩
theorem Dp (X:List (Rw I2)) (p:Nat) (y:Rw I2):(X.set p y).map (·.2.2)=(X.map (·.2.2)).set p y.2.2:=by rw[List.map_set]
theorem I6 (A:Option Addr) (n c:Nat) (Vs:List VC) (B:Option Addr) (m k:Nat) (Es:List EC) (w:World) (h:bz w A n c Vs B m k Es) (hn:n≤1000000) (hr:∀x∈Vs,x.2.1.2.1≤1000000) (hv:∀v∈Vs,∀d∈v.2.1.2.2.2,su d):
 Calls Tryz.prog 184 #[.agg #[.slice A n c,.slice B m k]] w fun e w'=>∃A2 c2 X,e=.returned (.slice A2 (fg (dm Vs)) c2)∧NC w' w.heap.size A2 (fg (dm Vs)) c2 X∧X.map (·.2.2)=EL Vs∧Below w.heap.size w w':=by
 have HV:=qh h.v;have oG:=qh (h.v.rlen aS (by decide));have kH:=qh h;obtain⟨i1I,KH,Yv,Y3,aa9⟩:=aW OL;obtain⟨i2I,Rj,afc,ad3,aeJ⟩:=aW Kl;obtain⟨R,gR⟩:=aB (EL Vs);have Cw:fg (dm Vs)=rk (dm Vs) n:=by rw[fg,mx,oG.out];rfl
 rw[gR,Cw];unfold EL at gR;have Uu:=IK Vs;have wN:=mx Vs;obtain⟨L,gL⟩:=aB (dm Vs);rw[gL] at gR Uu wN ⊢;rw[oG.out] at gR wN;have MW:=qh Uu;have WZ:=qh wN;have D7:=qh gR
 have XX:Hid (∀W,bz W A n c Vs B m k Es→Calls Tryz.prog 188 #[.agg #[.slice A n c,.slice B m k]] W fun e w'=>∃g,e=.returned (.slice (some ⟨g,0,none⟩) n n)∧w'.ownsRow W.heap.size 3 1 (.slice (some ⟨g,0,none⟩) n n) n (ah n1 L)∧Below W.heap.size W w'):=qh (fun W h=>by
  refine(Fp A n c Vs B m k Es W h hn hr hv).mono ?_
  rintro e w' ⟨g,rfl,ho,hb⟩;rw[gL] at ho;exact⟨g,rfl,ho,hb⟩)
 clear h hr hv gR gL Cw Uu wN;have Ee:=@run_makeMap Tryz.prog;go_enter Tryz.func184,Tryz.ntmps184;go_upto_region 1 with fail
 obtain⟨W0,b0,bO,bp,aQ,bw,mQ,lZ,oa⟩:=yj w 25 [.slice A n c,.slice B m k];rw[bO,bp];clear bO bp;have Wz:=qh ((kH.out.bl bw.out).al (.map #[] 0));have aL:=qh (aQ.out.al (.map #[] 0));have bE:=qh (aI bw.out (.map #[] 0));have KM:Hid (de (W0.alloc (.map #[] 0)) zQ W0.heap.size 0 (mm L 0)):=qh (by rw[MV];exact de.made);have aar:b0<W0.heap.size:=aQ.out.lt;have UA:W0.heap.size<(W0.alloc (.map #[] 0)).heap.size:=by simp
 have YF:w.heap.size≤b0:=oa.out;have c0:=aL.out.cell (i:=0) rfl;have c1:=aL.out.cell (i:=1) rfl;go_wp2_with fail
 clear Ee c0 c1;obtain⟨W1,aV⟩:=aB (W0.alloc (.map #[] 0));obtain⟨bm,EP⟩:=aB W0.heap.size;rw[aV] at Wz aL bE KM UA ⊢;rw[EP] at KM aar UA ⊢;clear aV EP aQ bw mQ
 refine(XX.out _ Wz.out).mono ?_
 rintro e w3 ⟨gl,rfl,WS,bA⟩;obtain⟨lo,Su⟩:=aB w3.heap.size;have cF:=qh (aL.out.bl bA);have D5:=qh (KM.out.bl bA);have bB:=qh (ag bE.out bA);have H9:Hid (bm<gl∧gl<lo):=qh (by have h1:=AM WS rfl;have h2:W1.heap.size≤gl∧gl<w3.heap.size:=h1;omega);have sV:Hid (b0<bm∧bm<lo):=qh (by have:=H9.out;omega);have U8:Hid (w.heap.size≤b0):=qh YF;have vu:Hid (lo=w3.heap.size):=qh Su.symm;have HOl:Hid (bg w3 w3.heap.size 1 (some ⟨gl,0,none⟩) n n (ah n1 L)):=qh (aK WS);have BF:Hid (Kept (fun i=>i=bm∨lo≤i) w3 w3):=qh (Kept.refl _ _);have RJ:Hid (NC w3 lo none 0 0 []):=qh (RowsIn.nil_ _ _);clear WS bA Wz aL bE KM aar UA YF kH XX Su;go_wp2;go_loopw [3,12] (fun sl si wr=>∃(j:Nat) (A2:Option Addr) (c2:Nat) (X:List (Rw I2)),j≤n∧si=.int .i64 j∧sl=.slice A2 (rk L j) c2∧Hid (Kept (fun i=>i=bm∨lo≤i) w3 wr)∧Hid (de wr zQ bm j (mm L j))∧Hid (NC wr lo A2 (rk L j) c2 X)∧Hid (X.map (·.2.2)=fo L (KC Vs) j)) (fun _ si _=>n - (intOf si).toNat)
 case atStart=>exact⟨0,none,0,[],by omega,rfl,rfl,BF,D5,RJ,qh rfl⟩
 case round=>
  clear BF D5 RJ;obtain⟨j,A2,c2,X,hj,rfl,rfl,HK,HM,HP,S7⟩:=hrel;obtain⟨wo,cS⟩:=aB wr;rw[cS] at HK HM HP ⊢;clear cS
  by_cases nT:j<n
  ·obtain⟨v,hx⟩:∃v,Vs[j]? =some v:=⟨_,List.getElem?_eq_getElem (by have:=oG.out;omega)⟩
   have Fu:KC Vs j=v.1:=by
    unfold KC;rw[List.getD_eq_getElem?_getD,List.getElem?_map,hx];rfl
   have Xb:j<L.length:=by have:=WZ.out;omega
   obtain⟨l,SR⟩:∃l:Nat,L.getD j 0=(l:Int):=⟨(L.getD j 0).toNat,by have:=(MW.out j Xb).1;omega⟩
   have afa:l≤j:=by have:=(MW.out j Xb).2.1;omega
   have ln:wo.cell? ⟨gl,j,none⟩=some (.int .i64 (l:Int)):=by
    have h1:=VW HOl.out WZ.out nT;rw[SR] at h1;exact HK.out.cell h1 (by have:=sV.out;have:=H9.out;rintro (h|h)<;>(simp only at h;omega))
   obtain⟨bb,off,rfl,aY,a8⟩:=HV.out.place aS (by decide) (by omega);have bC:=bB.out;have q0:=a8 j _ hx 0 _ rfl;have q1:=a8 j _ hx 1 _ rfl;have q2:=a8 j _ hx 2 _ rfl;have q3:=a8 j _ hx 3 _ rfl;have q4:=a8 j _ hx 4 _ rfl;simp only[Addr.add_lit,Nat.add_zero] at q0 q1 q2 q3 q4;have l0:=(bC.cell (p:=⟨bb,off+j*5,none⟩) aY).trans q0;have l1:=(bC.cell (p:=⟨bb,off+j*5+1,none⟩) aY).trans q1;have l2:=(bC.cell (p:=⟨bb,off+j*5+2,none⟩) aY).trans q2;have l3:=(bC.cell (p:=⟨bb,off+j*5+3,none⟩) aY).trans q3;have l4:=(bC.cell (p:=⟨bb,off+j*5+4,none⟩) aY).trans q4;clear bC q0 q1 q2 q3 q4;obtain⟨⟨i1,i2⟩,⟨rA,rn,rc,rL⟩,lb,at_⟩:=v;replace Fu:KC Vs j=(i1,i2):=Fu;have q0:w3.cell? ⟨bb,off+j*5,none⟩=some (.int .i64 i1):=l0;have q1:w3.cell? ⟨bb,off+j*5+1,none⟩=some (.int .i64 i2):=l1;have Qs:Hid (bb<w.heap.size):=qh aY;clear l0 l1 l2 l3 l4 hx aY a8;have Xw:rk L j≤j:=by rw[rk];have:=List.countP_le_length (p:=cv L) (l:=List.range j);simpa using this
   by_cases Ea:l=j
   ·obtain rfl:j=l:=Ea.symm;have hb:cv L j=true:=by rw[cv,SR];simp
    have Ta:=Ey MW.out (KC Vs) Xb SR;rw[Fu,←S7.out] at Ta;have hlen:=zF L (KC Vs) X j S7.out;have hrs:rk L (j+1)=rk L j+1:=by rw[Ag,hb];rfl
    have Yk:=qh hrs;have ht:((j:Int)==j)=true:=by simp
    obtain⟨p,gp⟩:=aB (rk L j);have HGp:=qh gp;have Xm:=FV j (by omega);have Tp:=HM;rw[gp] at HP hlen hrs Ta Xw;rw[gp];go_upto_region 7 with fail
    refine wp_region_lit ?_;refine a7 (v:=?_) (some 20) rfl (by rfl) ?_ ?_;rotate_left
    ·go_simp;(try with_reducible rfl)
    simp only[Act.put,aw,ar,aq];refine a7 (v:=?_) (some 21) rfl (by rfl) ?_ ?_;rotate_left
    ·go_simp;(try with_reducible rfl)
    simp only[Act.put,aw,ar,aq];refine a7 (v:=?_) (some 22) rfl (by rfl) ?_ ?_;rotate_left
    ·go_simp;(try with_reducible rfl)
    simp only[Act.put,aw,ar,aq];refine a7 (v:=?_) (some 23) rfl (by rfl) ?_ ?_;rotate_left
    ·go_simp;(try with_reducible rfl)
    simp only[Act.put,aw,ar,aq];have xi:j<maxLen:=by unfold maxLen;omega
    refine zq rfl _ _ _ rfl rfl HM.out Tryz.underlying193 xi Xm rfl rfl ?_;intro w5 hm5 uu;have Qm:Hid (de w5 zQ bm (j+1) (mm L (j+1))):=qh (Ns hb (by rw[gp];exact hm5));have xP:Hid (Kept (fun i=>i=bm∨lo≤i) w3 w5):=qh (HK.out.trans ⟨uu.os,uu.tape,uu.output,uu.size,fun i hi bj=>uu.block i hi (fun q=>bj (.inl (Option.some.inj q)))⟩);have UC:Hid (NC w5 lo A2 p c2 X):=qh (HP.out.far uu (fun g q e=>by have h1:=(HP.out.row.lt g e).1;have:=Option.some.inj q;have:=sV.out;omega) (fun x KP g q e=>by have h1:=((HP.out.one x KP).lt g e).1;have:=Option.some.inj q;have:=sV.out;omega));clear hm5 uu xi Xm HM Tp HK HP ln;simp only[Act.put,aw,ar,aq];go_upto_region 8 with fail
    refine wp_region_lit ?_;refine a7 (v:=?_) (some 24) rfl (by rfl) ?_ ?_;rotate_left
    ·go_simp;(try with_reducible rfl)
    simp only[Act.put,aw,ar,aq];refine gS (some 25) rfl (by rfl) 190 121 1 #[(0,.const (.slice none 0 0))] (by rfl) Tryz.underlying190 #[.slice none 0 0] (by kernel_rfl) ?_;simp only[Act.put,aw,ar,aq];have Ob:Hid (bg (w5.alloc (.cells #[.slice none 0 0] 121)) (w5.alloc (.cells #[.slice none 0 0] 121)).heap.size 1 (some ⟨w5.heap.size,0,none⟩) 1 1 [.slice none 0 0]):=qh (bg.of_whole (cs:=[.slice none 0 0]) (Whole.new_ _ _ _) rfl);obtain⟨A3,c3,w6,bV,hp6,oE,x7⟩:=(UC.out.al (.cells #[.slice none 0 0] 121)).push_nil (P:=Tryz.prog) 190 190 i2I _ Tryz.underlying190 Rj afc ad3 aeJ rfl (by decide) (by omega) (by have:=vu.out;have:=xP.out.size;simp;omega) _ _ _ Ob.out;refine pC (some 26) rfl (by rfl) (dt (by rfl) (by rfl) (by rfl) bV) ?_;simp only[Act.put,aw,ar,aq];have Vw:∀g,(Value.slice A2 p c2).ownBlock=some g→lo≤g:=fun g e=>(UC.out.row.lt g e).1
    have Eb:=qh ((Qm.out.al (.cells #[.slice none 0 0] 121)).grown x7 (fun q=>by have:=Vw bm q.symm;have:=sV.out;omega));have ki:Hid (Kept (fun i=>i=bm∨lo≤i) w3 w6):=qh ((xP.out.alloc (.cells #[.slice none 0 0] 121)).trans ⟨x7.os,x7.tape,x7.output,x7.size,fun i hi bj=>x7.block i hi (fun q=>bj (.inr (Vw i q.symm)))⟩);have QC:Hid (NC w6 lo A3 (p+1) c3 (X++[(none,0,[])])):=qh hp6;clear bV hp6 oE x7 Vw Ob UC xP Qm;go_upto_region 9 with fail
    refine wp_region_lit ?_;refine a7 (v:=?_) (some 27) rfl (by rfl) ?_ ?_;rotate_left
    ·go_simp;(try with_reducible rfl)
    simp only[Act.put,aw,ar,aq];refine a7 (v:=?_) (some 28) rfl (by rfl) ?_ ?_;rotate_left
    ·go_simp;(try with_reducible rfl)
    simp only[Act.put,aw,ar,aq];refine zj rfl _ _ rfl rfl Eb.out Tryz.underlying193 (kO _) (x:=(j:Int)) (FV j (by omega)) rfl ?_
    have a8:(mm L (j+1) (j:Int)).getD (.int .i64 0)=.int .i64 (p:Int):=by
     unfold mm;rw[zK (Nat.lt_succ_self j) hb,gp];rfl
    rw[a8];simp only[Act.put,aw,ar,aq]
    have hx:(X++[((none,0,[]):Rw I2)])[p]? =some (none,0,[]):=by
     rw[←hlen,List.getElem?_append_right (Nat.le_refl _),Nat.sub_self];rfl
    have X5:Hid (∀A8 c8,((X++[((none,0,[]):Rw I2)]).set p (A8,c8,[(i1,i2)])).map (·.2.2)=fo L (KC Vs) (j+1)):=qh (fun A8 c8=>by rw[Dp,List.map_append,Ta];rfl);have ti:p<p+1:=by omega
    obtain⟨x,gx⟩:=aB (((none,0,[]):Rw I2));have j9:x.2.2.length≤1000000:=by rw[←gx];simp
    have HGx:Hid (x.2.2=[]):=qh (by rw[←gx]);rw[gx] at hx X5 QC;obtain⟨X2,gX2⟩:=aB (X++[x]);rw[gX2] at hx X5 QC;clear gx gX2 Ta hlen a8 S7 Fu SR Xb hb gp;obtain⟨wo,cS⟩:=aB w6;rw[cS] at Eb ki QC ⊢;clear cS;have HR:=QC;have Ht:=ki;have WT:=Eb;obtain⟨n2,Vo⟩:=aB (p+1);have dQ:=qh Vo;rw[Vo] at HR ti ⊢;clear Vo QC ki Eb;obtain⟨A2,XK⟩:=aB A3;obtain⟨c2,XY⟩:=aB c3;rw[XK,XY] at HR ⊢;clear XK XY;obtain⟨X,gX⟩:=aB X2;rw[gX] at HR X5 hx;clear gX;obtain⟨g2,SK,eA2,iZ,fT,qB,Fy,-⟩:=eZ (i:=0) (y:=x) (u:=kX x) Aw HR.out.row hx ti (by decide) rfl;subst eA2;simp only[Nat.mul_one,Nat.add_zero] at qB;replace qB:wo.cell? ⟨g2,p,none⟩=some (kX x):=qB;have KP:=List.mem_of_getElem? hx;have NN:∀i,some i=(kX x).ownBlock→lo≤i:=fun i hi=>((HR.out.one x KP).lt i hi.symm).1
    have ET:some g2≠(kX x).ownBlock:=fun q=>jM HR.out.row (HR.out.one x KP) (by decide) rfl q.symm
    have FF:=qh (Ht.out.whole cF.out (by have:=sV.out;have:=vu.out;rintro (h|h)<;>omega));have VM:∀i:Nat,¬some b0=(kX x).ownBlock:=fun i q=>by have:=NN b0 q;have:=vu.out;have:=cF.out.lt;omega
    have Yz:=Ht.out.cell (p:=⟨bb,off+j*5,none⟩) q0 (by have:=sV.out;have:=vu.out;have:=U8.out;have:=Qs.out;rintro (h|h)<;>(simp only at h;omega));have LM:=Ht.out.cell (p:=⟨bb,off+j*5+1,none⟩) q1 (by have:=sV.out;have:=vu.out;have:=U8.out;have:=Qs.out;rintro (h|h)<;>(simp only at h;omega));have Qa:¬some bb=(kX x).ownBlock:=fun q=>by have:=NN bb q;have:=sV.out;have:=vu.out;have:=U8.out;have:=Qs.out;omega
    obtain⟨xv,Vf⟩:=aB (kX x);have GX:=qh Vf;rw[Vf] at qB NN ET VM Qa;have fL:∀w',Kept (fun i=>some i=xv.ownBlock) wo.drew w'→w'.cell? ⟨g2,p,none⟩=some xv:=fun w' h=>h.cell (show wo.drew.cell? _=_ from qB) ET
    have ld1:∀w',Kept (fun i=>some i=xv.ownBlock) wo.drew w'→w'.cell? ⟨b0,0,none⟩=some (.slice (some ⟨bb,off,none⟩) n c):=fun w' h=>h.cell (FF.out.dr.cell (i:=0) rfl) (VM 0)
    have ka:∀w',Kept (fun i=>some i=xv.ownBlock) wo.drew w'→w'.cell? ⟨bb,off+j*5,none⟩=some (.int .i64 i1):=fun w' h=>h.cell (show wo.drew.cell? _=_ from Yz) Qa
    have pV:∀w',Kept (fun i=>some i=xv.ownBlock) wo.drew w'→w'.cell? ⟨bb,off+j*5+1,none⟩=some (.int .i64 i2):=fun w' h=>h.cell (show wo.drew.cell? _=_ from LM) Qa
    have HXl:Hid (x.2.2.length≤1000000):=qh j9;have OE:Hid (X[p]? =some x):=qh hx;have HKd:=qh Ht.out.drew;have Yq:=qh WT.out.dr;have VP:=qh HR.out.dr;have SC:Hid (∀i,some i=xv.ownBlock→lo≤i):=qh NN;clear qB NN ET VM Qa Yz LM KP fT Fy hx j9 Ht WT HR FF Vf;go_upto_region 10 with fail
    refine cI ((fun i=>some i=xv.ownBlock)) [15] (by kernel_rfl) ?_;refine aU 0 ?_;refine aU 1 ?_;refine aU 2 ?_;refine aU 3 ?_;refine aU 4 ?_;refine aU 5 ?_;refine aU 6 ?_;refine aU 7 ?_;refine aU 8 ?_;refine aU 9 ?_;refine aU 10 ?_;refine aU 11 ?_;refine lM 12 ?_;intro w' aC
    refine⟨.slice (some ⟨w'.heap.size,0,none⟩) 1 1,w'.alloc (.cells (lS (i1,i2)).toArray 30),gW 121 30 1 #[(0,.tmp 41)] (by rfl) Tryz.underlying121 _ (by kernel_rfl),Kept.of_below (az _ _),?_⟩
    have HL:Hid (bg (w'.alloc (.cells (lS (i1,i2)).toArray 30)) (w'.alloc (.cells (lS (i1,i2)).toArray 30)).heap.size 2 (some ⟨w'.heap.size,0,none⟩) 1 1 (lS (i1,i2))):=qh (bg.of_whole (Whole.new_ _ _ _) rfl);have QS:=qh (HKd.out.trans (Kept.of_below (aI aC (.cells (lS (i1,i2)).toArray 30))));have TO:=qh ((Yq.out.bl aC).al (.cells (lS (i1,i2)).toArray 30));have Ww:=qh ((VP.out.bl aC).al (.cells (lS (i1,i2)).toArray 30));obtain⟨W3,kh⟩:=aB (w'.alloc (.cells (lS (i1,i2)).toArray 30));obtain⟨g3,Sz⟩:=aB w'.heap.size;rw[kh] at HL QS TO Ww ⊢;rw[Sz] at HL ⊢;clear aC kh Sz HKd Yq VP;simp only[Act.put,aw,ar,aq];refine lM 13 ?_;intro w' aC;obtain⟨A8,c8,bW,bV,D9,uR,yp⟩:=(Ww.out.bl aC).grow (P:=Tryz.prog) OE.out pL 121 121 i1I _ 16 Tryz.underlying121 KH Yv Y3 aa9 rfl (by decide) (by decide) HXl.out (by decide) (by have:=vu.out;have:=QS.out.size;have:=aC.size;omega) _ _ 1 (i1,i2) (HL.out.bl aC) (Ia _)
    refine⟨_,bW,dt (by rfl) (by rfl) (by rfl) (by rw[←GX.out];exact bV),⟨uR.os,uR.tape,uR.output,uR.size,fun i hi bj=>uR.block i hi (by rw[GX.out];exact bj)⟩,?_⟩
    have S6:some bm≠(kX x).ownBlock:=fun q=>by have h1:=SC.out bm (by rw[←GX.out];exact q);have:=sV.out;have:=vu.out;omega
    have yu:=qh (de.grown (TO.out.bl aC) uR S6);have vj:Kept (fun i=>i=bm∨lo≤i) w' bW:=⟨uR.os,uR.tape,uR.output,uR.size,fun i hi bj=>uR.block i hi (fun q=>bj (.inr (SC.out i (by rw[←GX.out];exact q))))⟩;have mc:=qh ((QS.out.trans (Kept.of_below aC)).trans vj);have RY:=qh yp;obtain⟨W4,uQ⟩:=aB bW;rw[uQ] at yu mc RY ⊢;obtain⟨n8,YP⟩:=aB ((x.2.2++[(i1,i2)]).length);have e8:kX (A8,c8,x.2.2++[(i1,i2)])=.slice A8 n8 c8:=by rw[←YP];rfl
    rw[e8] at RY ⊢;clear aC bV D9 uR yp S6 vj uQ HL QS TO Ww e8 YP;simp only[Act.put,aw,ar,aq];refine aU 14 ?_;refine qu 15 ?_;intro w' aC;obtain⟨gq,eq,OU,⟨csq,Xo⟩,hcq,hfq,hMq⟩:=RY.out w' aC
    obtain rfl:g2=gq:=by
     injection eq with eq
     injection eq
    refine⟨w'.setCell ⟨g2,p,none⟩ (.slice A8 n8 c8),by(rw[←GX.out] at fL;go_simp;first|done|exact rfl|exact⟨rfl,rfl⟩),?_⟩
    have rK:=qh hMq;have vj:Kept (fun i=>i=bm∨lo≤i) w' (w'.setCell ⟨g2,p,none⟩ (.slice A8 n8 c8)):=(Kept.refl _ w').setCell (.inl (.inr OU)) (.slice A8 n8 c8);have km:=qh ((mc.out.trans (Kept.of_below aC)).trans vj);have EX:Hid (de (w'.setCell ⟨g2,p,none⟩ (.slice A8 n8 c8)) zQ bm (j+1) (mm L (j+1))):=qh ((yu.out.bl aC).kept (S:=fun i=>i=g2) (Kept.setCell (S:=fun i=>i=g2) (p:=⟨g2,p,none⟩) (Kept.refl _ w') (.inl rfl) _) (by have:=sV.out;have:=vu.out;omega));obtain⟨W7,tr⟩:=aB (w'.setCell ⟨g2,p,none⟩ (.slice A8 n8 c8));rw[tr] at rK km EX ⊢;clear aC eq OU Xo hcq hfq hMq vj tr yu mc RY;(try simp only[Act.put,aw,ar,aq]);refine gG (by kernel_rfl) ?_ _;intro W8 cg;have JW:=qh (rK.out.bl cg);have oA:=qh (km.out.trans (Kept.of_below cg));have Jc:=qh (EX.out.bl cg);clear cg rK km EX;go_wp2;go_roundw
    case rel=>exact⟨j+1,some ⟨g2,0,none⟩,c2,_,by omega,by go_num,by rw[Yk.out,HGp.out,dQ.out],oA,Jc.out.mono (by omega)|>qh,(by rw[Yk.out,HGp.out,dQ.out];exact JW),qh (by rw[HGx.out];exact X5.out _ _)⟩
    case measure=>simp[intOf];omega
   ·have dz:=FQ MW.out (KC Vs) Xb SR Ea;obtain⟨iQ,hb,SU,Ta⟩:=dz
    have Zv:cv L j=false:=by
     rw[cv,SR];exact beq_eq_false_iff_ne.2 (by omega)
    have ht:((l:Int)==(j:Int))=false:=beq_eq_false_iff_ne.2 (by omega);have hrs:rk L (j+1)=rk L j:=by rw[Ag,Zv];rfl
    have Yk:=qh hrs;have hlen:=zF L (KC Vs) X j S7.out
    obtain⟨x,hx,VV⟩:∃x,X[rk L l]? =some x∧x.2.2=kv L (KC Vs) j l:=by
     have h1:=SU;rw[←S7.out,List.getElem?_map] at h1;cases hq:X[rk L l]? with
     |none=>rw[hq] at h1;cases h1
     |some x=>rw[hq] at h1;exact⟨x,rfl,Option.some.inj h1⟩
    have ti:rk L l<rk L j:=by have:=(List.getElem?_eq_some_iff.1 hx).1;omega
    have j9:x.2.2.length≤1000000:=by
     rw[VV,kv,List.length_map];have h8:=List.length_filter_le (fun k=>L.getD k 0==(l:Int)) (List.range j);rw[List.length_range] at h8;omega
    have WR:(mm L j (l:Int)).getD (.int .i64 0)=.int .i64 ((rk L l:Nat):Int):=by
     unfold mm;rw[zK iQ hb];rfl
    obtain⟨p,gp⟩:=aB (rk L l);rw[gp] at hx ti WR Ta;have X5:Hid (∀A8 c8,(X.set p (A8,c8,x.2.2++[(i1,i2)])).map (·.2.2)=fo L (KC Vs) (j+1)):=qh (fun A8 c8=>by rw[Dp,Ta,S7.out,←VV,Fu]);go_upto_region 9 with fail
    refine wp_region_lit ?_;refine a7 (v:=?_) (some 27) rfl (by rfl) ?_ ?_;rotate_left
    ·go_simp;(try with_reducible rfl)
    simp only[Act.put,aw,ar,aq];refine a7 (v:=?_) (some 28) rfl (by rfl) ?_ ?_;rotate_left
    ·go_simp;(try with_reducible rfl)
    simp only[Act.put,aw,ar,aq];refine zj rfl _ _ rfl rfl HM.out Tryz.underlying193 (kO _) (x:=(l:Int)) (FV l (by omega)) rfl ?_;rw[WR];simp only[Act.put,aw,ar,aq];have Eb:Hid (de wo zQ bm j (mm L (j+1))):=qh (by rw[Ru Zv];exact HM.out);have HR:=HP;have Ht:=HK;have WT:=Eb;clear HM Eb HP HK WR gp VV SU Ta iQ hb Zv hrs hlen S7 Fu SR Ea afa Xb ln ht;obtain⟨n2,Vo⟩:=aB (rk L j);have dQ:=qh Vo;rw[Vo] at HR ti Xw ⊢;clear Vo;obtain⟨g2,SK,eA2,iZ,fT,qB,Fy,-⟩:=eZ (i:=0) (y:=x) (u:=kX x) Aw HR.out.row hx ti (by decide) rfl;subst eA2;simp only[Nat.mul_one,Nat.add_zero] at qB;replace qB:wo.cell? ⟨g2,p,none⟩=some (kX x):=qB;have KP:=List.mem_of_getElem? hx;have NN:∀i,some i=(kX x).ownBlock→lo≤i:=fun i hi=>((HR.out.one x KP).lt i hi.symm).1
    have ET:some g2≠(kX x).ownBlock:=fun q=>jM HR.out.row (HR.out.one x KP) (by decide) rfl q.symm
    have FF:=qh (Ht.out.whole cF.out (by have:=sV.out;have:=vu.out;rintro (h|h)<;>omega));have VM:∀i:Nat,¬some b0=(kX x).ownBlock:=fun i q=>by have:=NN b0 q;have:=vu.out;have:=cF.out.lt;omega
    have Yz:=Ht.out.cell (p:=⟨bb,off+j*5,none⟩) q0 (by have:=sV.out;have:=vu.out;have:=U8.out;have:=Qs.out;rintro (h|h)<;>(simp only at h;omega));have LM:=Ht.out.cell (p:=⟨bb,off+j*5+1,none⟩) q1 (by have:=sV.out;have:=vu.out;have:=U8.out;have:=Qs.out;rintro (h|h)<;>(simp only at h;omega));have Qa:¬some bb=(kX x).ownBlock:=fun q=>by have:=NN bb q;have:=sV.out;have:=vu.out;have:=U8.out;have:=Qs.out;omega
    obtain⟨xv,Vf⟩:=aB (kX x);have GX:=qh Vf;rw[Vf] at qB NN ET VM Qa;have fL:∀w',Kept (fun i=>some i=xv.ownBlock) wo.drew w'→w'.cell? ⟨g2,p,none⟩=some xv:=fun w' h=>h.cell (show wo.drew.cell? _=_ from qB) ET
    have ld1:∀w',Kept (fun i=>some i=xv.ownBlock) wo.drew w'→w'.cell? ⟨b0,0,none⟩=some (.slice (some ⟨bb,off,none⟩) n c):=fun w' h=>h.cell (FF.out.dr.cell (i:=0) rfl) (VM 0)
    have ka:∀w',Kept (fun i=>some i=xv.ownBlock) wo.drew w'→w'.cell? ⟨bb,off+j*5,none⟩=some (.int .i64 i1):=fun w' h=>h.cell (show wo.drew.cell? _=_ from Yz) Qa
    have pV:∀w',Kept (fun i=>some i=xv.ownBlock) wo.drew w'→w'.cell? ⟨bb,off+j*5+1,none⟩=some (.int .i64 i2):=fun w' h=>h.cell (show wo.drew.cell? _=_ from LM) Qa
    have HXl:Hid (x.2.2.length≤1000000):=qh j9;have OE:Hid (X[p]? =some x):=qh hx;have HKd:=qh Ht.out.drew;have Yq:=qh WT.out.dr;have VP:=qh HR.out.dr;have SC:Hid (∀i,some i=xv.ownBlock→lo≤i):=qh NN;clear qB NN ET VM Qa Yz LM KP fT Fy hx j9 Ht WT HR FF Vf;go_upto_region 10 with fail
    refine cI ((fun i=>some i=xv.ownBlock)) [15] (by kernel_rfl) ?_;refine aU 0 ?_;refine aU 1 ?_;refine aU 2 ?_;refine aU 3 ?_;refine aU 4 ?_;refine aU 5 ?_;refine aU 6 ?_;refine aU 7 ?_;refine aU 8 ?_;refine aU 9 ?_;refine aU 10 ?_;refine aU 11 ?_;refine lM 12 ?_;intro w' aC
    refine⟨.slice (some ⟨w'.heap.size,0,none⟩) 1 1,w'.alloc (.cells (lS (i1,i2)).toArray 30),gW 121 30 1 #[(0,.tmp 41)] (by rfl) Tryz.underlying121 _ (by kernel_rfl),Kept.of_below (az _ _),?_⟩
    have HL:Hid (bg (w'.alloc (.cells (lS (i1,i2)).toArray 30)) (w'.alloc (.cells (lS (i1,i2)).toArray 30)).heap.size 2 (some ⟨w'.heap.size,0,none⟩) 1 1 (lS (i1,i2))):=qh (bg.of_whole (Whole.new_ _ _ _) rfl);have QS:=qh (HKd.out.trans (Kept.of_below (aI aC (.cells (lS (i1,i2)).toArray 30))));have TO:=qh ((Yq.out.bl aC).al (.cells (lS (i1,i2)).toArray 30));have Ww:=qh ((VP.out.bl aC).al (.cells (lS (i1,i2)).toArray 30));obtain⟨W3,kh⟩:=aB (w'.alloc (.cells (lS (i1,i2)).toArray 30));obtain⟨g3,Sz⟩:=aB w'.heap.size;rw[kh] at HL QS TO Ww ⊢;rw[Sz] at HL ⊢;clear aC kh Sz HKd Yq VP;simp only[Act.put,aw,ar,aq];refine lM 13 ?_;intro w' aC;obtain⟨A8,c8,bW,bV,D9,uR,yp⟩:=(Ww.out.bl aC).grow (P:=Tryz.prog) OE.out pL 121 121 i1I _ 16 Tryz.underlying121 KH Yv Y3 aa9 rfl (by decide) (by decide) HXl.out (by decide) (by have:=vu.out;have:=QS.out.size;have:=aC.size;omega) _ _ 1 (i1,i2) (HL.out.bl aC) (Ia _)
    refine⟨_,bW,dt (by rfl) (by rfl) (by rfl) (by rw[←GX.out];exact bV),⟨uR.os,uR.tape,uR.output,uR.size,fun i hi bj=>uR.block i hi (by rw[GX.out];exact bj)⟩,?_⟩
    have S6:some bm≠(kX x).ownBlock:=fun q=>by have h1:=SC.out bm (by rw[←GX.out];exact q);have:=sV.out;have:=vu.out;omega
    have yu:=qh (de.grown (TO.out.bl aC) uR S6);have vj:Kept (fun i=>i=bm∨lo≤i) w' bW:=⟨uR.os,uR.tape,uR.output,uR.size,fun i hi bj=>uR.block i hi (fun q=>bj (.inr (SC.out i (by rw[←GX.out];exact q))))⟩;have mc:=qh ((QS.out.trans (Kept.of_below aC)).trans vj);have RY:=qh yp;obtain⟨W4,uQ⟩:=aB bW;rw[uQ] at yu mc RY ⊢;obtain⟨n8,YP⟩:=aB ((x.2.2++[(i1,i2)]).length);have e8:kX (A8,c8,x.2.2++[(i1,i2)])=.slice A8 n8 c8:=by rw[←YP];rfl
    rw[e8] at RY ⊢;clear aC bV D9 uR yp S6 vj uQ HL QS TO Ww e8 YP;simp only[Act.put,aw,ar,aq];refine aU 14 ?_;refine qu 15 ?_;intro w' aC;obtain⟨gq,eq,OU,⟨csq,Xo⟩,hcq,hfq,hMq⟩:=RY.out w' aC
    obtain rfl:g2=gq:=by
     injection eq with eq
     injection eq
    refine⟨w'.setCell ⟨g2,p,none⟩ (.slice A8 n8 c8),by(rw[←GX.out] at fL;go_simp;first|done|exact rfl|exact⟨rfl,rfl⟩),?_⟩
    have rK:=qh hMq;have vj:Kept (fun i=>i=bm∨lo≤i) w' (w'.setCell ⟨g2,p,none⟩ (.slice A8 n8 c8)):=(Kept.refl _ w').setCell (.inl (.inr OU)) (.slice A8 n8 c8);have km:=qh ((mc.out.trans (Kept.of_below aC)).trans vj);have EX:Hid (de (w'.setCell ⟨g2,p,none⟩ (.slice A8 n8 c8)) zQ bm j (mm L (j+1))):=qh ((yu.out.bl aC).kept (S:=fun i=>i=g2) (Kept.setCell (S:=fun i=>i=g2) (p:=⟨g2,p,none⟩) (Kept.refl _ w') (.inl rfl) _) (by have:=sV.out;have:=vu.out;omega));obtain⟨W7,tr⟩:=aB (w'.setCell ⟨g2,p,none⟩ (.slice A8 n8 c8));rw[tr] at rK km EX ⊢;clear aC eq OU Xo hcq hfq hMq vj tr yu mc RY;(try simp only[Act.put,aw,ar,aq]);refine gG (by kernel_rfl) ?_ _;intro W8 cg;have JW:=qh (rK.out.bl cg);have oA:=qh (km.out.trans (Kept.of_below cg));have Jc:=qh (EX.out.bl cg);clear cg rK km EX;go_wp2;go_roundw
    case rel=>exact⟨j+1,some ⟨g2,0,none⟩,c2,_,by omega,by go_num,by rw[Yk.out,dQ.out],oA,Jc.out.mono (by omega)|>qh,(by rw[Yk.out,dQ.out];exact JW),qh (X5.out _ _)⟩
    case measure=>simp[intOf];omega
  ·obtain rfl:n=j:=by omega
   have HKf:=HK;go_wp2;go_ret
   refine⟨A2,c2,X,rfl,?_,by rw[←D7.out];exact S7.out,?_⟩
   ·exact⟨MT HP.out.row (by have:=bB.out.size;have:=vu.out;omega),HP.out.len,fun x hx=>MT (HP.out.one x hx) (by have:=bB.out.size;have:=vu.out;omega),HP.out.ne⟩
   ·have h1:=HK.out;have h2:=bB.out
    have:=sV.out
    have:=U8.out
    have:=vu.out
    exact h2.trans ⟨h1.os,h1.tape,h1.output,h1.size,fun i hi=>h1.block i (Nat.lt_of_lt_of_le hi h2.size) (by have:=h2.size;rintro (h|h)<;>omega)⟩
theorem Jw (A:Option Addr) (n c:Nat) (Vs:List VC) (B:Option Addr) (m k:Nat) (Es:List EC) (w:World) (h:bz w A n c Vs B m k Es) (hn:n≤1000000) (hr:∀x∈Vs,x.2.1.2.1≤1000000) (hv:∀v∈Vs,∀d∈v.2.1.2.2.2,su d):
 Calls Tryz.prog 176 #[.agg #[.slice A n c,.slice B m k]] w fun e w'=>e=.returned (.int .i64 ((fg (dm Vs):Nat):Int))∧Below w.heap.size w w':=by
 have kH:=qh h;have HC:=qh (fun W h=>I6 A n c Vs B m k Es W h hn hr hv);obtain⟨q,gq⟩:=aB (fg (dm Vs));rw[gq] at HC ⊢;clear h hr hv gq;go_enter Tryz.func176,Tryz.ntmps176;go_upto_region 1 with fail
 obtain⟨W0,b0,bO,bp,aQ,bw,mQ,lZ,oa⟩:=yj w 25 [.slice A n c,.slice B m k];rw[bO,bp];clear bO bp;have c0:=aQ.out.cell (i:=0) rfl;have c1:=aQ.out.cell (i:=1) rfl;go_wp2_with fail
 refine(HC.out _ (kH.out.bl bw.out)).mono ?_
 rintro e w3 ⟨A2,c2,X,rfl,hp,hX,bA⟩;have bB:=qh (ag bw.out bA);clear hp hX bA c0 c1;go_wp2;go_ret;exact⟨rfl,bB.out⟩
end
section
open Go.ChangeShapes Go.WideShapes Go.ChangeAt Go.RowKit
section
variable {H:Type} {enc:TypeId × Value→H} {P:Program}
theorem qF (hl:laidOutB P=true) {W W':World} (hb:Below W.heap.size W W'):∀(ts:List TypeId) (vs:List Value) (ds:List (DataW H)) (ps:List MemPlace) (sp:Nat→Bool),
 (∀t∈ts,P.readableRec t=true∧t<P.types.size)→DataW.TrodAll enc P W 0 (fun _=>true) true ts vs ds ps→
 (∀p∈ps,p.block<W.heap.size)→(∀p∈ps,sp p.block=true)→DataW.TrodAll enc P W' 0 sp true ts vs ds ps
 |[],_,_,_,_,_,h,_,_=>by
  obtain⟨rfl,rfl,rfl⟩:=trodAll_nil h;exact rfl
 |t::ts,vs,ds,ps,sp,ht,h,dz,hs=>by
  obtain⟨v,vs',d,ds',p,q,rfl,rfl,rfl,h1,h2⟩:=trodAll_cons h
  have⟨hr,ry⟩:=ht t (by simp)
  refine⟨p,q,WideElems.Trod_stays hl hr ry h1 (fun x hx=>hb.same (dz x (by simp[hx]))) (fun x hx=>hs x (by simp[hx])),?_,rfl⟩
  exact qF hl hb ts vs' ds' q sp (fun t' h'=>ht t' (by simp[h'])) h2 (fun x hx=>dz x (by simp[hx])) (fun x hx=>hs x (by simp[hx]))
theorem NF {f:Func} {s:ChangeSpec} {tb:TypeId} {W W':World} {args:Array Value} {ds gs:List (DataW H)} {before:List MemPlace}
 (hl:laidOutB P=true) (hts:f.params.toList.all (fun t=>P.readableRec t && decide (t<P.types.size))=true) (hr:f.resultTypes=#[tb]) (htb:P.underlying tb=some .bool) (hv:s.vars=[])
 (hfn:(s.fn H (ds++gs)).results=[.lit (.bool true)]∧(s.fn H (ds++gs)).args=ds∧(s.fn H (ds++gs)).vars=[])
 (hW:DataW.Whole enc P f.params.toList s.vars false W args.toList ds gs before) (hb:Below W.heap.size W W'):
 s.post enc P f false true false false W args (.bool true) W':=by
 have afj:∀t∈f.params.toList,P.readableRec t=true∧t<P.types.size:=fun t ht=>by
  have h:=List.all_eq_true.1 hts t ht;simpa using h
 have dz:∀p∈before,p.block<W.heap.size:=fun p hp=>hW.lt p hp
 have hW':=hW;obtain⟨p,q,hA,hV,rfl,hfz,AK⟩:=hW;rw[hv] at hV;obtain⟨rfl,rfl⟩:=trodVars_none hV;obtain⟨e1,e2,e3⟩:=hfn
 refine⟨ds,[],p++[],[],p,[],hW',?_,?_,?_,?_,fun h=>by cases h⟩
 ·rw[e1,hr];exact trodAll_mk1 (shut_bool htb _)
 ·rw[e2];exact qF hl hb _ _ _ _ _ afj hA (fun x hx=>dz x (by simp[hx])) (fun x hx=>by simpa using dz x (by simp[hx]))
 ·rw[e3,hv];rfl
 ·exact World.keptBut_mono (fun x hx=>⟨hx,by simpa using hx⟩) (hb.frame (·∈p++[]))
end
end
section
open Go.ChangeShapes Go.WideShapes Go.ChangeAt Go.RowKit
section
variable {H:Type} {P:Program}
def In64 (n:Int):Prop:= -9223372036854775808≤n∧n≤9223372036854775807
end
end
section
open Go.ChangeShapes Go.WideShapes Go.ChangeAt Go.RowKit
theorem Tryz.own:ownKnob Tryz.prog.godebug=none:=by kernel_rfl
theorem Tryz.laidOut:laidOutB Tryz.prog=true:=by kernel_rfl
end
section
open Go.ChangeShapes Go.WideShapes Go.ChangeAt Go.RowKit Go.Deep
end
section
open Go.ChangeShapes Go.WideShapes Go.ChangeAt Go.RowKit Go.Deep
section
variable {H:Type} {P:Program} {α β:Type}
def Row1 (H:Type) (P:Program) (t:TypeId) (f:α→List Value) (p:World→α→Prop):Prop:=
 ∀(enc:TypeId × Value→H) (w:World) (held:Bool) (fuel:Nat) (cs:List Value) (x:DataW H × List MemPlace),
  DataW.trod enc P w 0 (fun _=>true) held fuel t cs=some x→∃a,cs=f a∧p w a
theorem pF {t:TypeId} (ht:P.underlying t=some (.int .i64)):Row1 H P t (fun n:Int=>[J n]) (fun _ n=>In64 n):=by
 intro enc w held fuel cs x h;obtain⟨n,rfl,_,hw⟩:=DataW.trod_int ht h;exact⟨n,rfl,bounds_i64 hw⟩
theorem I0 {t:TypeId} (ht:P.underlying t=some .bool):Row1 H P t (fun b:Bool=>[.bool b]) (fun _ _=>True):=by
 intro enc w held fuel cs x h;cases fuel with
 |zero=>simp[DataW.trod] at h
 |succ m=>
  unfold DataW.trod at h;rw[ht] at h;split at h<;>simp_all
theorem CY {t:TypeId} (ht:P.underlying t=some .string):Row1 H P t (fun s:ByteArray=>[.string s]) (fun _ s=>s.size≤maxLen):=by
 intro enc w held fuel cs x h;obtain⟨s,rfl,_,hs⟩:=DataW.trod_string ht h;exact⟨s,rfl,hs⟩
theorem Row1.map {t:TypeId} {f:α→List Value} {p:World→α→Prop} (h:Row1 H P t f p) (g:α→β) {f':β→List Value} {p':World→β→Prop} (hf:∀a,f a=f' (g a)) (hp:∀w a,p w a→p' w (g a)):Row1 H P t f' p':=by
 intro enc w held fuel cs x hx;obtain⟨a,rfl,ha⟩:=h enc w held fuel cs x hx;exact⟨g a,hf a,hp w a ha⟩
def vq (H:Type) (P:Program) (fs:List Field) (off m:Nat) (g:α→List Value) (q:World→α→Prop):Prop:=
 ∀(enc:TypeId × Value→H) (w:World) (held:Bool) (n:Nat) (cs:List Value),
  (∀fl∈fs,∃y,DataW.trod enc P w 0 (fun _=>true) held n fl.type ((cs.drop fl.offset).take (P.cellsOf fl.type))=some y)→∃a,(cs.drop off).take m=g a∧q w a
theorem lr (off:Nat):vq H P [] off 0 (fun _:Unit=>[]) (fun _ _=>True):=fun _ _ _ _ cs _=>⟨(),by simp,trivial⟩
theorem bZ {fl:Field} {fs:List Field} {off k m:Nat} {f:α→List Value} {p:World→α→Prop} {g:β→List Value} {q:World→β→Prop}
 (h:Row1 H P fl.type f p) (ho:fl.offset=off) (hc:P.cellsOf fl.type=k) (hr:vq H P fs (off+k) m g q):
 vq H P (fl::fs) off (k+m) (fun ab:α × β=>f ab.1++g ab.2) (fun w ab=>p w ab.1∧q w ab.2):=by
 intro enc w held n cs aX;obtain⟨y,hy⟩:=aX fl (by simp);obtain⟨a,ha,pa⟩:=h _ _ _ _ _ _ hy;obtain⟨b,hb,qb⟩:=hr enc w held n cs (fun fl' h'=>aX fl' (by simp[h']));rw[ho,hc] at ha
 refine⟨(a,b),?_,pa,qb⟩
 show _=f a++g b;rw[←ha,←hb,List.take_add,List.drop_drop]
theorem jV {t:TypeId} {fs:List Field} {m:Nat} {g:α→List Value} {q:World→α→Prop} (ht:P.underlying t=some (.struct fs.toArray)) (hc:P.cellsOf t=m) (h:vq H P fs 0 m g q):Row1 H P t g q:=by
 intro enc w held fuel cs x hx;obtain⟨xs,n,_,_,hl,hlen,hg⟩:=DataW.trod_struct ht hx
 obtain⟨a,ha,qa⟩:=h enc w held n cs (fun fl hfl=>by
  obtain⟨i,hi⟩:=List.getElem?_of_mem hfl;have h1:=hg i fl (by simpa using hi)
  have dz:i<xs.length:=by
   rw[hlen];simpa using (List.getElem?_eq_some_iff.1 hi).1
  exact⟨xs[i],by rw[h1,List.getElem?_eq_getElem dz]⟩)
 refine⟨a,?_,qa⟩
 rw[←ha,List.drop_zero,List.take_of_length_le (by omega)]
theorem zk {e:TypeId} {k:Nat} {f:α→List Value} {p:World→α→Prop} (hi:Row1 H P e f p) (hc:P.cellsOf e=k) (hk:∀a,(f a).length=k) (enc:TypeId × Value→H) (W:World) (held:Bool) (a:Addr) (nn:Nat):
 ∀n:Nat,(∀i,i<n→∃qy D,W.cells? 0 (a.add (i*P.cellsOf e)) (P.cellsOf e)=some qy∧DataW.trod enc P W 0 (fun _=>true) held nn e qy=some D)→
  ∃l:List α,l.length=n∧(∀j u,(ah f l)[j]? =some u→W.cell? (a.add j)=some u)∧∀x∈l,p W x
 |0,_=>⟨[],rfl,fun j u h=>(by simp[ah] at h),fun x h=>(by cases h)⟩
 |n+1,h=>by
  obtain⟨l,hl,hq,hp⟩:=zk hi hc hk enc W held a nn n (fun i hi=>h i (by omega));obtain⟨qy,D,h1,h2⟩:=h n (by omega);obtain⟨x,rfl,hx⟩:=hi _ _ _ _ _ _ h2;rw[hc] at h1;obtain⟨_,SL,SU⟩:=World.cells?_some h1;have hlen:(ah f l).length=n*k:=by rw[cj f hk,hl]
  refine⟨l++[x],by simp[hl],fun j u hj=>?_,fun y hy=>?_⟩
  ·rw[bY] at hj;rcases Nat.lt_or_ge j (n*k) with dz|OT
   ·rw[List.getElem?_append_left (by omega)] at hj;exact hq j u hj
   ·rw[List.getElem?_append_right (by omega),hlen] at hj;simp only[ah,List.append_nil] at hj
    have VB:j - n*k<k:=by
     rcases Nat.lt_or_ge (j - n*k) k with h3|h3
     ·exact h3
     ·rw[List.getElem?_eq_none (by rw[hk];exact h3)] at hj;cases hj
    have h4:=SU (j - n*k) VB;rw[hj,add_add,show n*k+(j - n*k)=j by omega] at h4;exact h4
  ·rcases List.mem_append.1 hy with hy|hy
   ·exact hp y hy
   ·obtain rfl:=List.mem_singleton.1 hy;exact hx
def TY (k:Nat) (f:α→List Value) (p:World→α→Prop) (w:World) (s:Option Addr × Nat × Nat × List α):Prop:=
 s.2.2.1≤maxLen∧bg w w.heap.size k s.1 s.2.1 s.2.2.1 (ah f s.2.2.2)∧∀x∈s.2.2.2,p w x
def Ay (s:Option Addr × Nat × Nat × List α):List Value:=[.slice s.1 s.2.1 s.2.2.1]
theorem wm {t e:TypeId} {k:Nat} {f:α→List Value} {p:World→α→Prop} (hi:Row1 H P e f p) (ht:P.underlying t=some (.slice e)) (hc:P.cellsOf e=k) (hk:∀a,(f a).length=k) (h0:0<k):
 Row1 H P t (Ay (α:=α)) (TY k f p):=by
 intro enc W held fuel cs x hf;rcases open_slice ht hf with⟨rfl,_⟩|⟨a,n,c,m,q,D,Pl,rfl,hb,hl,hm,Ee,hx,Fb⟩
 ·exact⟨(none,0,0,[]),rfl,Nat.zero_le _,⟨by simp[ah],fun _=>⟨rfl,rfl⟩,Nat.le_refl _,fun a ha=>(by cases ha),fun a ha=>(by cases ha)⟩,fun x hx=>(by cases hx)⟩
 ·have hmc:m=c:=by simpa using Ee
  clear Ee;subst m
  obtain⟨l,hlen,yC,hp⟩:=zk hi hc hk enc W held a q n (fun i him=>by
   obtain⟨qy,h1,h2⟩:=Fb i (by omega);exact⟨qy,_,h1,h2⟩)
  refine⟨(some a,n,c,l),rfl,hm,⟨by rw[cj f hk,hlen],fun e=>(by cases e),hl,fun a' ha hn=>?_,fun a' ha j u hu=>?_⟩,hp⟩
  ·obtain rfl:=Option.some.inj ha;have h0':0<(ah f l).length:=by rw[cj f hk,hlen];exact Nat.mul_pos hn h0
   have:=World.block_lt_of_cell? W _ (yC 0 _ (List.getElem?_eq_getElem h0'))
   simpa [Addr.add] using this
  ·obtain rfl:=Option.some.inj ha;exact yC j u hu
theorem uT {w W:World} {t e:TypeId} {k:Nat} {f:α→List Value} {p:World→α→Prop} {r:Reach} {b0:Nat} {enc:TypeId × Value→H} {held:Bool} {v:Value} {d:DataW H} {ps:List MemPlace}
 (hi:Row1 H P e f p) (ht:P.underlying t=some (.slice e)) (hc:P.cellsOf e=k) (hk:∀a,(f a).length=k) (h0:0<k)
 (hv:Value.okWide P w r b0 t v) (hd:DataW.Trod enc P W 0 (fun _=>true) held t v d ps):
 ∃s:Option Addr × Nat × Nat × List α,v=.slice s.1 s.2.1 s.2.2.1∧TY k f p W s:=by
 obtain⟨A0,n0,c0,rfl⟩:=okWide_slice ht hv;obtain⟨fuel,hf⟩:=hd;obtain⟨s,q,hs⟩:=wm hi ht hc hk h0 _ _ _ _ _ _ hf
 refine⟨s,?_,hs⟩
 simpa [Value.cells,Ay] using q
end
end
section
open Go.ChangeShapes Go.WideShapes Go.ChangeAt Go.RowKit Go.Deep
section
variable {H:Type} {P:JaE} {α β:Type}
def IQ (H:Type) (P:JaE) (t:Υ) (f:α→List ψ) (p:ο→α→Prop):Prop:=
 ∀(enc:Υ × ψ→H) (w:ο) (held:Bool) (fuel:Nat) (cs:List ψ) (x:DataW H × List MemPlace),
  DataW.trod enc P w 0 (fun _=>τ) held fuel t cs=ζ x→(∀n∈x.1.weights P t,n≤reachBytes)→∃a,cs=f a∧p w a
theorem Row1.z {t:Υ} {f:α→List ψ} {p:ο→α→Prop} (h:Row1 H P t f p):IQ H P t f p:=fun enc w held fuel cs x hx _=>h enc w held fuel cs x hx
theorem IQ.map {t:Υ} {f:α→List ψ} {p:ο→α→Prop} (h:IQ H P t f p) (g:α→β) {f':β→List ψ} {p':ο→β→Prop} (hf:∀a,f a=f' (g a)) (hp:∀w a,p w a→p' w (g a)):IQ H P t f' p':=by
 intro enc w held fuel cs x hx hz;obtain⟨a,rfl,ha⟩:=h enc w held fuel cs x hx hz;exact⟨g a,hf a,hp w a ha⟩
end
end
theorem aG.small {A:Option Κ} {n c:Nat} {Vs:List VC} {B:Option Κ} {m k:Nat} {Es:List EC} {w:ο} (hf:aG Vs Es) (h:bz w A n c Vs B m k Es):n≤24∧m≤40∧∀x∈Vs,x.2.1.2.1≤80:=by
 have h1:=h.v.rlen aS (by decide);have h2:=h.e.rlen bM (by decide);have h3:=hf.v24;have h4:=hf.e40
 refine⟨by omega,by omega,fun x hx=>?_⟩
 have h5:=(h.r x hx).2.dlen;have h6:=hf.len
 have h7:x.2.1.2.2.2.length≤(ao Vs).length:=by
  clear h1 h2 h3 h4 h5 h6 h hf
  induction Vs with
  |nil=>cases hx
  |cons v r ih=>
   rw[eA,Ε];rcases Η.1 hx with rfl|hx
   ·omega
   ·have:=ih hx;omega
 omega
end Go.Proofs.YtpdpbfmiahjiiaaGreat
