import Derived.Test.YtmepekognmlblaaGreatDoorP02
import Derived.Shelf.Bytes.SlIndexSmall
import Derived.Shelf.Bytes.SlSmallAll
import Derived.Shelf.Bytes.SlCut
import Derived.Shelf.Bytes.SlTrim
import Derived.Test.YtmepekognmlblaaGreatDoorProg
set_option linter.unusedVariables false
open Go.Proofs.Tryz Go.Shelf
open _root_.List renaming length_cons→GW,length_append→ZU,getElem?_eq_getElem→QN,getElem?_append_right→GK,getElem?_cons_succ→GV,getElem?_append_left→PX,mem_cons→Tg
open Go.Value renaming string→σ,int→ι,slice→ς,bool→τ
open Go.IntKind renaming i64→γ
open Go.Ending renaming returned→ρ
namespace Go.Proofs.YtmepekognmlblaaGreatDoor
namespace Shape
open Tree
def places(a:Nat):F→List Nat
 | .nil=>[]
 | .cons _ _ _ c r=>a::places (a+1+c.size) r
def Jn(p:Int)(a:Nat):F→List Int
 | .nil=>[]
 | .cons _ _ _ c r=>p::(Jn a (a+1) c++Jn p (a+1+c.size) r)
def Zt:F→List Int
 | .nil=>[]
 | .cons _ _ _ c r=>((c.size+1:Nat):Int)::(Zt c++Zt r)
def Z7(a:Nat):F→List (List Nat)
 | .nil=>[]
 | .cons _ _ _ c r=>places (a+1) c::(Z7 (a+1) c++Z7 (a+1+c.size) r)
theorem Y1:∀(p:Int)(a:Nat)(f:F),(Jn p a f).length=f.size
 |_,_,.nil=>rfl
 |p,a,.cons _ _ _ c r=>by simp only[Jn,F.size,GW,ZU,Y1]
theorem E6:∀f:F,(Zt f).length=f.size
 | .nil=>rfl
 | .cons _ _ _ c r=>by simp only[Zt,F.size,GW,ZU,E6]
theorem Vh:∀(a:Nat)(f:F),(Z7 a f).length=f.size
 |_,.nil=>rfl
 |a,.cons _ _ _ c r=>by simp only[Z7,F.size,GW,ZU,Vh]
theorem Jc:∀(a:Nat)(f:F),(places a f).length=f.len
 |_,.nil=>rfl
 |a,.cons _ _ _ c r=>by simp only[places,F.len,GW,Jc]
theorem Xe:∀f:F,Zt f=(nodes f).map fun n=>((n.size:Nat):Int)
 | .nil=>rfl
 | .cons k x y c r=>by
   simp only[Zt,nodes,List.map_cons,List.map_append,Xe c,Xe r];rfl
theorem Vw{α:Type}{h:α}{l m:List α}{n q:Nat}(hl:l.length=n):(h::(l++m))[q]?=if q=0 then some h else if q≤n then l[q-1]? else m[q-1-n]?:=by
 subst hl;cases q with
 |zero=>simp
 |succ q =>
  simp only[GV,Nat.add_sub_cancel];rw[if_neg (Nat.succ_ne_zero q)];by_cases h:q<l.length
  ·rw[PX h,if_pos ω]
  ·rw[GK ω,if_neg ω]
theorem Ux:∀(f:F)(a q:Nat)(n:Nd),(nodes f)[q]?=some n→(Z7 a f)[q]?=some (places (a+q+1) n.c)
 | .nil,a,q,n,h=>by simp[nodes]at h
 | .cons k x y c r,a,q,n,h=>by
   simp only[nodes,Z7]at h⊢;rw[Vw (Qj c)]at h;rw[Vw (Vh (a+1) c)];by_cases h0:q=0
   ·rw[if_pos h0]at h⊢;injection h with h;subst h;subst h0;rfl
   ·rw[if_neg h0]at h⊢;by_cases h1:q≤c.size
    ·rw[if_pos h1]at h⊢;rw[Ux c (a+1) (q-1) n h,show a+1+(q-1)+1=a+q+1 by omega]
    ·rw[if_neg h1]at h⊢;rw[Ux r (a+1+c.size) (q-1-c.size) n h,show a+1+c.size+(q-1-c.size)+1=a+q+1 by omega]
theorem Jw:∀(f:F)(a q:Nat),q∈places a f→a≤q∧q<a+f.size
 | .nil,a,q,h=>by simp[places]at h
 | .cons k x y c r,a,q,h=>by
   simp only[places,Tg]at h;simp only[F.size];rcases h with rfl|h
   ·omega
   ·have:=Jw r _ q h;omega
theorem B6:∀(f:F)(a j:Nat)(k:Int)(x y:ByteArray)(c r:F),f.drop j=.cons k x y c r→∃q,(places a f)[j]?=some q∧places a f=(places a f).take j++q::places (q+1+c.size) r∧(nodes f)[q-a]?=some ⟨k,x,y,c⟩∧a≤q
 | .nil,a,j,k,x,y,c,r,h=>by rw[F.drop_nil]at h;cases h
 | .cons k' x' y' c' r',a,0,k,x,y,c,r,h=>by
   simp only[F.drop,F.cons.injEq]at h;obtain⟨rfl,rfl,rfl,rfl,rfl⟩:=h;exact⟨a,rfl,rfl,by simp[nodes],Nat.le_refl _⟩
 | .cons k' x' y' c' r',a,j+1,k,x,y,c,r,h=>by
   obtain⟨q,h1,h2,h3,h4⟩:=B6 r' (a+1+c'.size) j k x y c r h;refine⟨q,by simpa[places]using h1,?_,?_,ω⟩
   ·simp only[places,List.take_succ_cons,List.cons_append];rw[←h2]
   ·simp only[nodes];rw[Vw (Qj c'),if_neg ω,if_neg ω,←h3]
    congr 1
    omega
theorem ĩ:∀(f:F)(p:Int)(a q:Nat),q∈places a f→(Jn p a f)[q-a]?=some p
 | .nil,p,a,q,h=>by simp[places]at h
 | .cons k x y c r,p,a,q,h=>by
   simp only[places,Tg]at h;simp only[Jn];rcases h with rfl|h
   ·simp
   ·have h':=Jw r _ q h;rw[Vw (Y1 (a:Int) (a+1) c),if_neg ω,if_neg ω,←ĩ r p _ q h]
    congr 1
    omega
theorem fg:∀(f:F)(p:Int)(a i q:Nat)(l:List Nat),(Z7 a f)[i]?=some l→q∈l→(Jn p a f)[q-a]?=some ((a+i:Nat):Int)∧a+i<q∧q<a+f.size
 | .nil,p,a,i,q,l,h,_=>by simp[Z7]at h
 | .cons k x y c r,p,a,i,q,l,h,hq=>by
   simp only[Z7]at h;simp only[Jn,F.size];rw[Vw (Vh (a+1) c)]at h;rw[Vw (Y1 (a:Int) (a+1) c)];by_cases h0:i=0
   ·rw[if_pos h0]at h;injection h with h;subst h;subst h0;have hg:=Jw c _ q hq;refine⟨?_,ω,ω⟩;rw[if_neg ω,if_pos ω,show q-a-1=q-(a+1)by omega,ĩ c _ _ q hq];rfl
   ·rw[if_neg h0]at h;by_cases h1:i≤c.size
    ·rw[if_pos h1]at h;obtain⟨e1,e2,e3⟩:=fg c a (a+1) (i-1) q l h hq;refine⟨?_,ω,ω⟩;rw[if_neg ω,if_pos ω,show q-a-1=q-(a+1)by omega,e1]
     congr 2
     omega
    ·rw[if_neg h1]at h;obtain⟨e1,e2,e3⟩:=fg r p (a+1+c.size) (i-1-c.size) q l h hq;refine⟨?_,ω,ω⟩;rw[if_neg ω,if_neg ω,show q-a-1-c.size=q-(a+1+c.size)by omega,e1]
     congr 2
     omega
theorem fB:∀(f:F)(a q:Nat),a≤q→q<a+f.size→q∈places a f∨∃(i:Nat)(l:List Nat),(Z7 a f)[i]?=some l∧q∈l
 | .nil,a,q,h1,h2=>by simp only[F.size]at h2;omega
 | .cons k x y c r,a,q,h1,h2=>by
   simp only[F.size]at h2;by_cases h0:q=a
   ·exact .inl (by simp[places,h0])
   ·by_cases hc:q<a+1+c.size
    ·rcases fB c (a+1) q ω ω with h|⟨i,l,h,hq⟩
     ·exact .inr ⟨0,places (a+1) c,by simp[Z7],h⟩
     ·refine .inr ⟨i+1,l,?_,hq⟩;have hi:i<(Z7 (a+1) c).length:=(List.getElem?_eq_some_iff.1 h).1;simp only[Z7,GV];rw[PX hi,h]
    ·rcases fB r (a+1+c.size) q ω ω with h|⟨i,l,h,hq⟩
     ·exact .inl (by simp only[places,Tg];exact .inr h)
     ·refine .inr ⟨c.size+i+1,l,?_,hq⟩;simp only[Z7,GV];rw[GK (by rw[Vh];omega),Vh,show c.size+i-c.size=i by omega,h]
theorem Jv:∀(f:F)(i:Nat)(n:Nd),(nodes f)[i]?=some n→i+1+n.c.size≤f.size∧∀r,r<n.c.size→(nodes f)[i+1+r]?=(nodes n.c)[r]?
 | .nil,i,n,h=>by simp[nodes]at h
 | .cons k x y c r,i,n,h=>by
   simp only[nodes,F.size]at h⊢;rw[Vw (Qj c)]at h;by_cases h0:i=0
   ·rw[if_pos h0]at h;injection h with h;subst h;subst h0;refine⟨by simp only;omega,fun r hr=>?_⟩;simp only at hr;rw[Vw (Qj c),if_neg ω,if_pos ω]
    congr 1
    omega
   ·rw[if_neg h0]at h;by_cases h1:i≤c.size
    ·rw[if_pos h1]at h;obtain⟨e1,e2⟩:=Jv c (i-1) n h;refine⟨ω,fun r hr=>?_⟩;rw[Vw (Qj c),if_neg ω,if_pos ω,←e2 r hr]
     congr 1
     omega
    ·rw[if_neg h1]at h;obtain⟨e1,e2⟩:=Jv r (i-1-c.size) n h;refine⟨ω,fun r hr=>?_⟩;rw[Vw (Qj c),if_neg ω,if_neg ω,←e2 r hr]
     congr 1
     omega
def fN(a:Nat)(c:F)(j kp:Nat):Prop:=places a c=(places a c).take j++places kp (c.drop j)
theorem Qlg(a:Nat)(c:F):fN a c 0 a:=by simp[fN,F.drop]
theorem Qpo{f:F}{i j kp:Nat}{n:Nd}{k:Int}{x y:ByteArray}{c r:F}(hn:(nodes f)[i]?=some n)(h:fN (i+1) n.c j kp)(hd:n.c.drop j=.cons k x y c r) :
 (places (i+1) n.c)[j]?=some kp∧fN (i+1) n.c (j+1) (kp+(c.size+1))∧(nodes f)[kp]?=some ⟨k,x,y,c⟩∧kp<f.size:=by
 obtain⟨q,h1,h2,h3,h4⟩:=B6 n.c (i+1) j k x y c r hd;have hq:q=kp:=by unfold fN at h;rw[hd]at h;have e:=h.symm.trans h2;simp only[places]at e;have:=List.append_cancel_left e;injection this with this _;exact this.symm
 subst hq;have hs:=(Jv f i n hn);have hlt:q-(i+1)<n.c.size:=by have:=(List.getElem?_eq_some_iff.1 h3).1;rwa[Qj]at this
 refine⟨h1,?_,?_,ω⟩
 ·unfold fN;have hr:n.c.drop (j+1)=r:=by
   have hlen:j<n.c.len:=by have:=F.Sa j n.c;rw[hd]at this;simp only[F.len]at this;omega
   obtain⟨k',x',y',c',r',e1,e2⟩:=F.drop_cons hlen;rw[hd]at e1;injection e1 with _ _ _ _ e1;rw[e2,e1]
  rw[hr,List.take_add_one,h1,show q+(c.size+1)=q+1+c.size by omega];simp only[Option.toList_some,List.append_assoc,List.singleton_append];exact h2
 ·have:=hs.2 (q-(i+1)) hlt;rw[show i+1+(q-(i+1))=q by omega]at this;rw[this,h3]
def one(k:Int)(x y:ByteArray)(c:F):F:=.cons k x y c .nil
theorem Q4(k:Int)(x y:ByteArray)(c:F):(one k x y c).size=c.size+1:=by simp[one,F.size]
theorem Gm(k:Int)(x y:ByteArray)(c:F):nodes (one k x y c)=⟨k,x,y,c⟩::nodes c:=by simp[one,nodes]
def Xw(a b:Nd):Bool:=a.k==b.k&&(a.x.toList==b.x.toList&&(a.y.toList==b.y.toList&&same a.c b.c))
theorem Vy{a b:Nd}:Xw a b=true↔a=b:=by
 obtain⟨k,x,y,c⟩:=a;obtain⟨k',x',y',c'⟩:=b
 constructor
 ·intro h;simp only[Xw,Bool.and_eq_true,beq_iff_eq]at h;obtain⟨h1,h2,h3,h4⟩:=h;rw[h1,U3 h2,U3 h3,same_eq h4]
 ·intro h;injection h with h1 h2 h3 h4;subst h1;subst h2;subst h3;subst h4;simp[Xw,iY]
def Qs(seen:List Nd)(n:Nd):Nat:=seen.findIdx fun s=>Xw s n
def Xq(seen:List Nd)(n:Nd):List Nd:=if Qs seen n=seen.length then seen++[n]else seen
def Qk:List Nd→List Nd→List Nat×List Nd
 |seen,[]=>([],seen)
 |seen,n::L=>(Qs seen n::(Qk (Xq seen n) L).1,(Qk (Xq seen n) L).2)
def Kl:List Nd→F→List (List Nat)
 |_,.nil=>[]
 |seen,.cons k x y c r=>(Qk seen (nodes (one k x y c))).1::Kl (Qk seen (nodes (one k x y c))).2 r
theorem Z0:∀(L seen:List Nd),(Qk seen L).1.length=L.length
 |[],_=>rfl
 |n::L,seen=>by simp only[Qk,GW,Z0 L]
theorem Qrl(seen:List Nd)(n:Nd):(Xq seen n).length≤seen.length+1:=by
 unfold Xq;split
 ·simp
 ·omega
theorem Gh:∀(L seen:List Nd),(Qk seen L).2.length≤seen.length+L.length
 |[],_=>Nat.le_refl _
 |n::L,seen=>by
  have h1:=Gh L (Xq seen n);have h2:=Qrl seen n;simp only[Qk,GW];omega
theorem Qlw{seen:List Nd}{n:Nd}{a:Nat}(ha:a≤seen.length)(h:∀b,b<a→∀s,seen[b]?=some s→Xw s n=false)(h':a=seen.length∨∃s,seen[a]?=some s∧Xw s n=true):Qs seen n=a:=by
 unfold Qs;rcases h' with rfl|⟨s,hs,ht⟩
 ·rw[List.findIdx_eq_length];intro s hs;obtain⟨b,hb,e⟩:=List.getElem_of_mem hs;exact h b hb s (by rw[QN hb,e])
 ·have hlt:=(List.getElem?_eq_some_iff.1 hs).1;rw[List.findIdx_eq hlt];refine⟨?_,fun b hb=>?_⟩
  ·rw[(List.getElem?_eq_some_iff.1 hs).2];exact ht
  ·exact h b hb _ (QN ω)
theorem Quo(seen:List Nd)(n:Nd):(Xq seen n)[Qs seen n]?=some n:=by
 unfold Xq;by_cases h:Qs seen n=seen.length
 ·rw[if_pos h,h];simp
 ·rw[if_neg h];have hlt:Qs seen n<seen.length:=Nat.lt_of_le_of_ne List.findIdx_le_length h;have ht:Xw (seen[Qs seen n]'hlt) n=true:=List.findIdx_getElem (w:=hlt);rw[QN hlt,Vy.1 ht]
theorem Qkm{seen:List Nd}{n:Nd}(h:seen.Nodup):(Xq seen n).Nodup:=by
 unfold Xq;by_cases hl:Qs seen n=seen.length
 ·rw[if_pos hl,List.nodup_append];refine⟨h,ψ,fun a ha b hb e=>?_⟩;rw[List.mem_singleton.1 hb]at e;subst e;have:=(List.findIdx_eq_length.1 hl) a ha;rw[Vy.2 rfl]at this;cases this
 ·rw[if_neg hl];exact h
theorem Qrk(seen:List Nd)(n:Nd):seen <+: Xq seen n:=by
 unfold Xq;split
 ·exact List.prefix_append _ _
 ·exact List.prefix_refl _
theorem og:∀(L seen:List Nd),seen <+: (Qk seen L).2
 |[],_=>List.prefix_refl _
 |n::L,seen=>(Qrk seen n).trans (og L (Xq seen n))
theorem Y5:∀(L seen:List Nd),seen.Nodup→(Qk seen L).2.Nodup
 |[],_,h=>h
 |n::L,seen,h=>Y5 L (Xq seen n) (Qkm h)
theorem pM{l m:List Nd}(h:l <+: m){i:Nat}{n:Nd}(hi:l[i]?=some n):m[i]?=some n:=by
 obtain⟨t,rfl⟩:=h;rw[PX (List.getElem?_eq_some_iff.1 hi).1,hi]
theorem rG:∀(L seen:List Nd)(i:Nat)(n:Nd)(q:Nat),L[i]?=some n→(Qk seen L).1[i]?=some q→(Qk seen L).2[q]?=some n
 |[],_,i,n,q,h,_=>by simp at h
 |m::L,seen,0,n,q,h,hq=>by
  simp only[List.getElem?_cons_zero,Option.some.injEq,Qk]at h hq;subst h;subst hq;exact pM (og L _) (Quo seen m)
 |m::L,seen,i+1,n,q,h,hq=>rG L (Xq seen m) i n q (by simpa using h) (by simpa[Qk]using hq)
theorem Qiw{L M:List Nd}{i j p q:Nat}{a b:Nd}(ha:L[i]?=some a)(hb:M[j]?=some b)(hp:(Qk [] L).1[i]?=some p)(hq:(Qk (Qk [] L).2 M).1[j]?=some q):(p=q)↔a=b:=by
 have h1:=pM (og M (Qk [] L).2) (rG L [] i a p ha hp);have h2:=rG M (Qk [] L).2 j b q hb hq;have hn:=Y5 M (Qk [] L).2 (Y5 L [] List.nodup_nil)
 constructor
 ·intro e;subst e;exact Option.some.inj (h1.symm.trans h2)
 ·intro e;subst e;obtain⟨l1,e1⟩:=List.getElem?_eq_some_iff.1 h1;obtain⟨l2,e2⟩:=List.getElem?_eq_some_iff.1 h2;exact(List.getElem_inj hn).1 (e1.trans e2.symm)
end Shape
end Go.Proofs.YtmepekognmlblaaGreatDoor
namespace Go.Proofs
def Tryz.RD:Go.Shelf.Ren:=⟨fun|185=>171|187=>176|115=>168|253=>177|224=>178|254=>179|255=>183|291=>184|n=>n,fun|37=>103|3=>3|4=>4|0=>0|5=>5|46=>148|9=>9|146=>202|51=>176|n=>n,fun|1=>4|n=>n⟩
theorem Tryz.Fe:Go.Proofs.Lays.n185 prog Tryz.RD:={
 mixed:=by kernel_rfl
 f115:=func168.trans (congrArg some (by kernel_rfl))
 f185:=func171.trans (congrArg some (by kernel_rfl))
 f187:=func176.trans (congrArg some (by kernel_rfl))
 f224:=func178.trans (congrArg some (by kernel_rfl))
 f253:=func177.trans (congrArg some (by kernel_rfl))
 f254:=func179.trans (congrArg some (by kernel_rfl))
 f255:=func183.trans (congrArg some (by kernel_rfl))
 f291:=func184.trans (congrArg some (by kernel_rfl))
 t0:=underlying0
 a0:=Tryz.isAgg0
 z0:=Tryz.sizeOf0
 v0:=Tryz.zeroValue0
 t3:=underlying3
 a3:=Tryz.isAgg3
 z3:=Tryz.sizeOf3
 v3:=Tryz.zeroValue3
 t4:=underlying4
 a4:=Tryz.isAgg4
 z4:=Tryz.sizeOf4
 v4:=Tryz.zeroValue4
 t5:=underlying5
 a5:=Tryz.isAgg5
 z5:=Tryz.sizeOf5
 v5:=Tryz.zeroValue5
 t9:=underlying9
 a9:=Tryz.isAgg9
 z9:=Tryz.sizeOf9
 v9:=Tryz.zeroValue9
 t37:=underlying103
 a37:=Tryz.isAgg103
 z37:=Tryz.sizeOf103
 v37:=Tryz.zeroValue103
 t46:=underlying148
 a46:=Tryz.isAgg148
 z46:=Tryz.sizeOf148
 v46:=Tryz.zeroValue148
 t51:=underlying176
 a51:=Tryz.isAgg176
 z51:=Tryz.sizeOf176
 v51:=Tryz.zeroValue176
 t146:=underlying202
 a146:=Tryz.isAgg202
 z146:=Tryz.sizeOf202
 v146:=Tryz.zeroValue202
 g1:=by kernel_rfl }
open Go.RowKit Go.Lib in
/-- bytes.Index at a separator of one byte: "Index returns the index of the first instance of sep in s, or -1 if sep is not present in s.": 'Lib.AH of s's bytes and that byte; the world is as it was. 'xs': s's elements; 'cv': the IU one byte. (LAID: no walk: one application.) -/
theorem Tryz.bytes_Index_one(b o n c b2 o2 d:Nat)(xs:List Int)(cv:Int)(w:World)(hx:xs.length=n)(hc:∀i,i<n→w.cell? ⟨b,o+i,none⟩=some (ι .u8 (xs.getD i 0)))(hc2:w.cell? ⟨b2,o2,none⟩=some (ι .u8 cv)) :
 Calls prog 171 #[ς (some ⟨b,o,none⟩) n c,ς (some ⟨b2,o2,none⟩) 1 d] w fun e w'=>e=ρ (ι γ (Lib.indexByte (Lib.bytesOf xs) cv.toNat.toUInt8))∧w'=w:=Any.bytes_Index_one Tryz.Fe b o n c b2 o2 d xs cv w hx hc hc2
def Tryz.LQ:Go.Shelf.Ren:=⟨fun|116=>163|115=>168|n=>n,fun|37=>103|4=>4|3=>3|9=>9|5=>5|n=>n,fun|n=>n⟩
theorem Tryz.Nl:Go.Proofs.Lays.nb116 prog Tryz.LQ:={
 mixed:=by kernel_rfl
 f115:=func168.trans (congrArg some (by kernel_rfl))
 f116:=func163.trans (congrArg some (by kernel_rfl))
 t3:=underlying3
 a3:=Tryz.isAgg3
 z3:=Tryz.sizeOf3
 v3:=Tryz.zeroValue3
 t4:=underlying4
 a4:=Tryz.isAgg4
 z4:=Tryz.sizeOf4
 v4:=Tryz.zeroValue4
 t9:=underlying9
 a9:=Tryz.isAgg9
 z9:=Tryz.sizeOf9
 v9:=Tryz.zeroValue9
 t37:=underlying103
 a37:=Tryz.isAgg103
 z37:=Tryz.sizeOf103
 v37:=Tryz.zeroValue103
 t5:=underlying5
 a5:=Tryz.isAgg5
 z5:=Tryz.sizeOf5
 v5:=Tryz.zeroValue5 }
/-- bytes.vL: WHOLE: each argument nil,or of no byte at whatever address,or at an address with its cells. (LAID: no walk: one application.) -/
theorem Tryz.bytes_HasPrefix_all(p1 p2:Option Addr)(n c m d:Nat)(xs ys:List Int)(w:World)(hx:xs.length=n)(hy:ys.length=m)(hnc:n≤c)(h1:Lib.BytesIn w p1 n xs)(h2:Lib.BytesIn w p2 m ys) :
 Calls prog 163 #[ς p1 n c,ς p2 m d] w fun e w'=>e=ρ (τ (Lib.hasPrefix (Lib.bytesOf xs) (Lib.bytesOf ys)))∧w'=w:=Any.bytes_HasPrefix_all Tryz.Nl p1 p2 n c m d xs ys w hx hy hnc h1 h2
def Tryz.PD:Go.Shelf.Ren:=⟨fun|4=>169|5=>171|6=>176|7=>168|8=>177|9=>178|10=>179|11=>183|12=>184|n=>n,fun|22=>103|4=>4|3=>3|0=>0|5=>5|29=>148|9=>9|31=>202|30=>176|n=>n,fun|0=>4|n=>n⟩
theorem Tryz.MV:Go.Proofs.SlLaysT.n4 prog Tryz.PD:={
 mixed:=by kernel_rfl
 f4:=func169.trans (congrArg some (by kernel_rfl))
 f5:=func171.trans (congrArg some (by kernel_rfl))
 f6:=func176.trans (congrArg some (by kernel_rfl))
 f7:=func168.trans (congrArg some (by kernel_rfl))
 f8:=func177.trans (congrArg some (by kernel_rfl))
 f9:=func178.trans (congrArg some (by kernel_rfl))
 f10:=func179.trans (congrArg some (by kernel_rfl))
 f11:=func183.trans (congrArg some (by kernel_rfl))
 f12:=func184.trans (congrArg some (by kernel_rfl))
 t0:=underlying0
 a0:=Tryz.isAgg0
 z0:=Tryz.sizeOf0
 v0:=Tryz.zeroValue0
 t3:=underlying3
 a3:=Tryz.isAgg3
 z3:=Tryz.sizeOf3
 v3:=Tryz.zeroValue3
 t4:=underlying4
 a4:=Tryz.isAgg4
 z4:=Tryz.sizeOf4
 v4:=Tryz.zeroValue4
 t5:=underlying5
 a5:=Tryz.isAgg5
 z5:=Tryz.sizeOf5
 v5:=Tryz.zeroValue5
 t9:=underlying9
 a9:=Tryz.isAgg9
 z9:=Tryz.sizeOf9
 v9:=Tryz.zeroValue9
 t22:=underlying103
 a22:=Tryz.isAgg103
 z22:=Tryz.sizeOf103
 v22:=Tryz.zeroValue103
 t29:=underlying148
 a29:=Tryz.isAgg148
 z29:=Tryz.sizeOf148
 v29:=Tryz.zeroValue148
 t30:=underlying176
 a30:=Tryz.isAgg176
 z30:=Tryz.sizeOf176
 v30:=Tryz.zeroValue176
 t31:=underlying202
 a31:=Tryz.isAgg202
 z31:=Tryz.sizeOf202
 v31:=Tryz.zeroValue202
 g0:=by kernel_rfl }
/-- THE WALK,bytes.Index's answer a premise: whatever the two eQ addresses. (LAID: no walk: one application.) -/
theorem Tryz.bytes_Cut_of(p1 p2:Option Addr)(n c1 k c2:Nat)(i:Int)(w:World)(hcap:n≤c1)(hlo : -1≤i)(hroom:0≤i→i+k≤n)(hn:n≤4611686018427387904)(Dj:Calls prog 171 #[ς p1 n c1,ς p2 k c2] w fun e w'=>e = ρ (ι γ i)∧∃q,w'=w.drewN q) :
 Calls prog 169 #[ς p1 n c1,ς p2 k c2] w fun e w'=>e=ρ (Lib.cutV p1 n c1 k i)∧∃q,w'=w.drewN q:=Any.bytes_Cut_of Tryz.MV p1 p2 n c1 k c2 i w hcap hlo hroom hn Dj
def Tryz.PC:Go.Shelf.Ren:=⟨fun|7=>170|10=>172|11=>173|13=>174|15=>175|16=>180|19=>181|18=>182|21=>185|17=>186|20=>187|n=>n,fun|22=>103|9=>9|3=>3|4=>4|5=>5|28=>194|27=>193|0=>0|31=>197|21=>21|33=>199|36=>204|37=>148|40=>207|39=>206|n=>n,fun|0=>5|1=>6|n=>n⟩
theorem Tryz.MU:Go.Proofs.SlLaysV.n7 prog Tryz.PC:={
 mixed:=by kernel_rfl
 f7:=func170.trans (congrArg some (by kernel_rfl))
 f10:=func172.trans (congrArg some (by kernel_rfl))
 f11:=func173.trans (congrArg some (by kernel_rfl))
 f13:=func174.trans (congrArg some (by kernel_rfl))
 f15:=func175.trans (congrArg some (by kernel_rfl))
 f16:=func180.trans (congrArg some (by kernel_rfl))
 f17:=func186.trans (congrArg some (by kernel_rfl))
 f18:=func182.trans (congrArg some (by kernel_rfl))
 f19:=func181.trans (congrArg some (by kernel_rfl))
 f20:=func187.trans (congrArg some (by kernel_rfl))
 f21:=func185.trans (congrArg some (by kernel_rfl))
 t0:=underlying0
 a0:=Tryz.isAgg0
 z0:=Tryz.sizeOf0
 v0:=Tryz.zeroValue0
 t3:=underlying3
 a3:=Tryz.isAgg3
 z3:=Tryz.sizeOf3
 v3:=Tryz.zeroValue3
 t4:=underlying4
 a4:=Tryz.isAgg4
 z4:=Tryz.sizeOf4
 v4:=Tryz.zeroValue4
 t5:=underlying5
 a5:=Tryz.isAgg5
 z5:=Tryz.sizeOf5
 v5:=Tryz.zeroValue5
 t9:=underlying9
 a9:=Tryz.isAgg9
 z9:=Tryz.sizeOf9
 v9:=Tryz.zeroValue9
 t21:=underlying21
 a21:=Tryz.isAgg21
 z21:=Tryz.sizeOf21
 v21:=Tryz.zeroValue21
 t22:=underlying103
 a22:=Tryz.isAgg103
 z22:=Tryz.sizeOf103
 v22:=Tryz.zeroValue103
 t27:=underlying193
 a27:=Tryz.isAgg193
 z27:=Tryz.sizeOf193
 t28:=underlying194
 a28:=Tryz.isAgg194
 z28:=Tryz.sizeOf194
 v28:=Tryz.zeroValue194
 t31:=underlying197
 a31:=Tryz.isAgg197
 z31:=Tryz.sizeOf197
 v31:=Tryz.zeroValue197
 t33:=underlying199
 a33:=Tryz.isAgg199
 z33:=Tryz.sizeOf199
 v33:=Tryz.zeroValue199
 t36:=underlying204
 a36:=Tryz.isAgg204
 z36:=Tryz.sizeOf204
 t37:=underlying148
 a37:=Tryz.isAgg148
 z37:=Tryz.sizeOf148
 v37:=Tryz.zeroValue148
 t39:=underlying206
 a39:=Tryz.isAgg206
 z39:=Tryz.sizeOf206
 v39:=Tryz.zeroValue206
 t40:=underlying207
 a40:=Tryz.isAgg207
 z40:=Tryz.sizeOf207
 v40:=Tryz.zeroValue207 }
open Go.RowKit in
theorem Tryz.bytes_TrimRight_laid(p:Option Addr)(n c:Nat)(xs:List Int)(Li:ByteArray)(w:World)
 (hx:xs.length=n) (hnc:n≤c) (hbig:c≤9223372036854775807) (h1:Lib.BytesIn w p n xs) (hr:∀x∈xs,0≤x∧x<256) (hcs:Li.size<4294967281) (hascii:∀(j:Nat) b,Li.data.toList[j]?=some b→b.toNat<128) :
 Calls prog 170 #[ς p n c,σ Li] w fun e w'=>e=ρ (ς p (Lib.trimRightS (Lib.bytesOf xs) Li.data.toList).length c)∧Below w.heap.size w w':=Any.bytes_TrimRight_laid Tryz.MU (by kernel_rfl) p n c xs Li w hx hnc hbig h1 hr hcs hascii
