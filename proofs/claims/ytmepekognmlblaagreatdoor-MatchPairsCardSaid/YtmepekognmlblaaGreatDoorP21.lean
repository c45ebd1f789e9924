import Derived.Test.YtmepekognmlblaaGreatDoorP18
import Derived.Test.YtmepekognmlblaaGreatDoorP19
import Derived.Laws.EntriesVeiled
set_option maxHeartbeats 4000000
set_option maxRecDepth 100000
set_option linter.unusedVariables false
open Go.RowKit Go.ChangeShapes Go.WideShapes Go.ChangeAt
open _root_.Bool renaming and_eq_true→Th
open _root_.List renaming getD_eq_getElem?_getD→QX,length_map→VD,length_append→ZU,append_assoc→JZ,getElem?_append_right→GK,append_nil→He
open Go.Value renaming string→σ,int→ι,slice→ς,pointer→π,bool→τ,agg→ξ
open Go.IntKind renaming i64→γ
open Go.Obj renaming cells→θ
open Go.Ending renaming returned→ρ
namespace Go.Proofs.YtmepekognmlblaaGreatDoor
namespace Match
open Tree Shape
def XJ(T:F):Sd:=⟨T,(Qk [] (nodes T)).1⟩
def XZ(T T':F):Sd:=⟨T',(Qk (Qk [] (nodes T)).2 (nodes T')).1⟩
theorem fy{T T':F}(h:∃k x y c,T=one k x y c)(h':∃k x y c,T'=one k x y c):ZM (XJ T) (XZ T T'):=by
 refine⟨h,h',fun x y hx hy=>?_⟩;have ha:=Sd.ZK hx;have hb:=Sd.ZK hy;have l1:(Qk [] (nodes T)).1.length=(nodes T).length:=Z0 _ _;have l2:(Qk (Qk [] (nodes T)).2 (nodes T')).1.length=(nodes T').length:=Z0 _ _;have e1:(Qk [] (nodes T)).1[x]?=some ((XJ T).no x):=by
  have hx':x<(Qk [] (nodes T)).1.length:=by rw[l1];exact hx
  unfold Sd.no XJ;rw[QX,List.getElem?_eq_getElem hx'];rfl
 have e2:(Qk (Qk [] (nodes T)).2 (nodes T')).1[y]?=some ((XZ T T').no y):=by
  have hy':y<(Qk (Qk [] (nodes T)).2 (nodes T')).1.length:=by rw[l2];exact hy
  unfold Sd.no XZ;rw[QX,List.getElem?_eq_getElem hy'];rfl
 have:=Qiw ha hb e1 e2;unfold JU;rw[beq_iff_eq];exact this
def Eb(T:F):List Int:=(nodes T).map (·.k)
theorem Ŧ{T:F}{x:Nat}{s:Sd}(hs:s.T=T)(hx:x<s.n):(Eb T).getD x 0=(s.at_ x).k:=by
 have:=Sd.ZK hx;unfold Sd.nd at this;rw[hs]at this;unfold Eb;rw[QX,List.getElem?_map,this];rfl
theorem Qbv(M:List Int):Ki M=(List.range' 0 M.length).flatMap fun x=>if 0≤M.getD x 0 then[((x:Int),M.getD x 0)]else[]:=by unfold Ki;rw[List.range_eq_range']
theorem ic{a b:Sd}{M:St}(h:Part a b M):∀(m i:Nat)(last:Int)(used:List Int),i+m=a.n→last<(i:Int)→(∀v∈used,∃x' y',x'<i∧v=((y':Nat):Int)∧Pd M.1 x' y')→
 X7 (Eb a.T) (Eb b.T) last used ((List.range' i m).flatMap fun x=>if 0≤M.1.getD x 0 then[((x:Int),M.1.getD x 0)]else[])=true
 |0,i,last,used,_,_,_=>rfl
 |m+1,i,last,used,hm,hl,hu=>by
  rw[List.range'_succ,List.flatMap_cons];have hi:i<a.n:=ω
  rcases h.s1 i hi with hf|⟨y,hy⟩
  ·rw[if_neg (by unfold QQ at hf;rw[decide_eq_true_eq]at hf;omega),List.nil_append];refine ic h m (i+1) last used ω ω fun v hv=>?_
   obtain⟨x',y',h1,h2⟩:=hu v hv;exact⟨x',y',ω,h2⟩
  ·have he:M.1.getD i 0=((y:Nat):Int):=by rw[QX,hy];rfl
   rw[he,if_pos ω,List.singleton_append];have Fh:=(h.lt hy).2;unfold X7;rw[Th];refine⟨?_,ic h m (i+1) _ _ ω ω fun v hv=>?_⟩
   ·unfold Kj;have Wt:(Eb a.T).length=a.n:=by unfold Eb;rw[VD];rfl
    have hlb:(Eb b.T).length=b.n:=by unfold Eb;rw[VD];rfl
    simp only[Th,decide_eq_true_eq,Wt,hlb,Int.toNat_natCast];refine⟨⟨⟨⟨⟨hl,ω⟩,ω⟩,ω⟩,?_⟩,?_⟩
    ·rw[Bool.not_eq_true',List.contains_eq_mem,decide_eq_false_iff_not];intro hc;obtain⟨x',y',h1,h2,h3⟩:=hu _ hc;obtain rfl:y'=y:=ω
     have:=((h.two _ _).1 h3).eq ((h.two _ _).1 hy);omega
    ·rw[Ŧ rfl hi,Ŧ rfl Fh];exact h.kind _ _ hy
   ·rcases List.mem_cons.1 hv with rfl|hv
    ·exact⟨i,y,ω,rfl,hy⟩
    ·obtain⟨x',y',h1,h2⟩:=hu v hv;exact⟨x',y',ω,h2⟩
theorem Qih{a b:Sd}{M:St}(h:Part a b M)(h0:Pd M.1 0 0):Z9 (Eb a.T) (Eb b.T) (Ki M.1)=true:=by
 unfold Z9;rw[Th];have hn:=(h.lt h0).1;have hL:M.1.length=a.n:=h.l1
 constructor
 ·rw[Qbv,hL];obtain⟨m,hm⟩:∃m,a.n=m+1:=⟨a.n-1,ω⟩;have he:M.1.getD 0 0=0:=by rw[QX,h0];rfl
  rw[hm,List.range'_succ,List.flatMap_cons,he];simp
 ·rw[Qbv,hL];exact ic h a.n 0 (-1) [] ω ω fun v hv=>by cases hv
theorem Qss{a b:Sd}(hn:ZM a b)(hk:(a.at_ 0).k=(b.at_ 0).k)(rt:Bool):Ext (M1 a b) (V4 a b rt):=by
 obtain⟨h1,h2⟩:=yw hn hk;obtain⟨g1,g2,_⟩:=Gy hn (a.kid 0) (M1 a b) h1 (iU a 0) fun x hx=>⟨hx,bX hn hk hx⟩
 unfold V4;cases rt with
 |false=>rw[if_neg δ];obtain⟨b1,b2⟩:=J2 hn a.n (M1 a b) 0 ω h1;exact b2.trans (Ut hn b1).2
 |true=>rw[if_pos rfl];obtain⟨b1,b2⟩:=J2 hn a.n _ 0 ω g1;exact g2.trans (b2.trans (Ut hn b1).2)
end Match
namespace Match
open Mem
def Fb(p:P2):List Value:=[ι γ p.1,ι γ p.2]
theorem fk:∀(L:List P2)(i:Nat)(p:P2),L[i]?=some p→(L.flatMap Fb)[i*2]?=some (ι γ p.1)∧(L.flatMap Fb)[i*2+1]?=some (ι γ p.2)
 |[],i,p,h=>by simp at h
 |q::r,0,p,h=>by
  simp only[List.getElem?_cons_zero,Option.some.injEq]at h;subst h;exact⟨rfl,rfl⟩
 |q::r,i+1,p,h=>by
  have:=fk r i p (by simpa using h);rw[List.flatMap_cons,show(i+1)*2=i*2+1+1 by omega];simpa[Fb]using this
def Qm(w:World)(S:Nat→Prop)(v:Value)(L:List P2):Prop:=∃A c,v=ς A L.length c∧L.length≤c∧c≤maxLen∧Vx w S A (L.flatMap Fb)
section
variable {w w':World}{S S':Nat→Prop}{A:Option Addr}{L:List P2}{v:Value}{c n:Nat}
theorem Qm.keep(h:Qm w S v L)(hb:∀b,S b→w'.heap[b]?=w.heap[b]?):Qm w' S v L:=by
 obtain⟨A,c,e,h1,h2,h3⟩:=h;exact⟨A,c,e,h1,h2,h3.keep hb⟩
theorem Qm.more(h:Qm w S v L)(hs:∀b,S b→S' b):Qm w S' v L:=by
 obtain⟨A,c,e,h1,h2,h3⟩:=h;exact⟨A,c,e,h1,h2,h3.more hs⟩
theorem Qm.later(h:Qm w (fun b=>b<w.heap.size) v L)(hb:Below w.heap.size w w'):Qm w' (fun b=>b<w'.heap.size) v L :=
 (h.keep fun b hb'=>hb.block b hb').more fun b hb'=>Nat.lt_of_lt_of_le hb' hb.size
theorem Qm.slice(h:Qm w S v L):∃A c,v=ς A L.length c:=by
 obtain⟨A,c,e,_⟩:=h;exact⟨A,c,e⟩
theorem Qm.at_(h:Qm w S (ς A n c) L){i:Nat}{p:P2}(hi:L[i]?=some p) :
 ∃b off,A=some ⟨b,off,none⟩∧S b∧w.cell? ⟨b,off+i*2,none⟩=some (ι γ p.1)∧w.cell? ⟨b,off+i*2+1,none⟩=some (ι γ p.2):=by
 obtain⟨A',c',e,h1,h2,h3⟩:=h;injection e with e1 e2 e3;subst e1;obtain⟨k0,k1⟩:=fk L i p hi;obtain⟨b,off,rfl,hS,hc⟩:=h3.at_ k0;obtain⟨b',Ni,e',_,hc'⟩:=h3.at_ k1;injection e' with e';injection e' with e1 e2;subst e1;subst e2;exact⟨b,off,rfl,hS,hc,by rw[Nat.add_assoc];exact hc'⟩
end
end Match
namespace Tree
open Mem
theorem Qkt(N:Nat):iO N:=by
 induction N using Nat.strongRecOn with
 |_ N ih=>exact Qib N ih
theorem Qff(k:Int)(x y:ByteArray)(A:Option Addr)(n C:Nat)(c:F)(w:World)(hf:Fs w (Lo w.heap.size) (ς A n C) c)(hx:x.size≤1000000)(hy:y.size≤1000000)(hsm:Zp c)(hT:Lex.XF w) :
 Calls Tryz.prog 28 #[ξ #[ι γ k,σ x,σ y,ς A n C]] w fun e w'=>e=ρ (τ (Vl ZZ ZN k x y c))∧Below w.heap.size w w':=by
 have b1:=Qt w (θ #[ι γ k,σ x,σ y,ς A n C] 24) (θ #[.func (.func 40) #[] #[π (some ⟨w.heap.size+1,0,none⟩)]] 68);have HC:=Lib.hid (Qkt c.size (w.heap.size+1) k x y A n C c false 0 _ (Nat.le_refl _) ((hf.below b1 (Nat.le_refl _)).up b1.size) hx hy hsm ω (hT.below b1 hT.pos) ψ (by rw[World.cell?_alloc_at _ _ _ _ ψ];rfl));have HB:=Lib.hid b1;clear b1 hf hx hy hsm hT;by_cases hk:k=1
 ·subst hk;rw[show Vl ZZ ZN 1 x y c=Vz ZZ ZN 1 x y c false 0 from rfl];generalize Vz ZZ ZN 1 x y c false 0=bb at *;go_enter Tryz.func28,Tryz.ntmps28;exact c171
 ·have k1:=QM hk;rw[show Vl ZZ ZN k x y c=false by unfold Vl;rw[k1];rfl];clear hk HC;go_enter Tryz.func28,Tryz.ntmps28;exact c23
end Tree
namespace Shape
open Tree
def upto:Nat→F→F
 |0,_=>.nil
 |_+1,.nil=>.nil
 |j+1,.cons k x y c r=>.cons k x y c (upto j r)
theorem Qqj:∀j,upto j .nil=.nil
 |0=>rfl
 |_+1=>rfl
theorem Ga:∀(j:Nat)(f:F),f.len≤j→upto j f=f
 |j,.nil,_=>Qqj j
 |0,.cons _ _ _ _ r,h=>by simp[F.len]at h
 |j+1,.cons k x y c r,h=>by
  simp only[upto];rw[Ga j r (by simp only[F.len]at h;omega)]
theorem K4:∀(j:Nat)(f:F)(k:Int)(x y:ByteArray)(c r:F),f.drop j=.cons k x y c r→
 nodes (upto (j+1) f)=nodes (upto j f)++nodes (one k x y c)∧Zt (upto (j+1) f)=Zt (upto j f)++Zt (one k x y c)∧(upto (j+1) f).size=(upto j f).size+(c.size+1)∧
 (∀a,places a (upto (j+1) f)=places a (upto j f)++[a+(upto j f).size])∧(∀p a,Jn p a (upto (j+1) f)=Jn p a (upto j f)++Jn p (a+(upto j f).size) (one k x y c))∧
 (∀a,Z7 a (upto (j+1) f)=Z7 a (upto j f)++Z7 (a+(upto j f).size) (one k x y c))
 |j,.nil,k,x,y,c,r,h=>by rw[F.drop_nil]at h;cases h
 |0,.cons k' x' y' c' r',k,x,y,c,r,h=>by
  simp only[F.drop,F.cons.injEq]at h;obtain⟨rfl,rfl,rfl,rfl,rfl⟩:=h;refine⟨?_,?_,?_,fun a=>?_,fun p a=>?_,fun a=>?_⟩;all_goals simp[upto,nodes,Zt,F.size,places,Jn,Z7,one]
 |j+1,.cons k' x' y' c' r',k,x,y,c,r,h=>by
  obtain⟨h1,h2,h3,h4,h5,h6⟩:=K4 j r' k x y c r h;refine⟨?_,?_,?_,fun a=>?_,fun p a=>?_,fun a=>?_⟩
  ·simp only[upto,nodes,List.cons_append,JZ]at h1⊢;rw[h1]
  ·simp only[upto,Zt,List.cons_append,JZ]at h2⊢;rw[h2]
  ·simp only[upto,F.size]at h3⊢;omega
  ·have:=h4 (a+1+c'.size);simp only[upto,places,List.cons_append,F.size]at this⊢;rw[this];simp only[List.cons.injEq,List.append_cancel_left_eq,true_and];exact⟨ω,trivial⟩
  ·have:=h5 p (a+1+c'.size);simp only[upto,Jn,List.cons_append,JZ,F.size]at this⊢;rw[this,show a+1+c'.size+(upto j r').size=a+(c'.size+(upto j r').size+1)by omega]
  ·have:=h6 (a+1+c'.size);simp only[upto,Z7,List.cons_append,JZ,F.size]at this⊢;rw[this,show a+1+c'.size+(upto j r').size=a+(c'.size+(upto j r').size+1)by omega]
theorem Yr:∀(j:Nat)(f:F)(a:Nat),places a (upto j f)=(places a f).take j
 |0,f,a=>by simp[upto,places]
 |j+1,.nil,a=>by simp[upto,places]
 |j+1,.cons k x y c r,a=>by
  simp only[upto,places,List.take_succ_cons];rw[Yr j r]
theorem Uh:∀(j:Nat)(f:F),(upto j f).size≤f.size
 |0,f=>Nat.zero_le _
 |_+1,.nil=>Nat.le_refl _
 |j+1,.cons k x y c r=>by have:=Uh j r;simp only[upto,F.size];omega
def dn:Nat→F→F
 |0,f=>f
 |_+1,.nil=>.nil
 |d+1,.cons _ _ _ c _=>dn d c
theorem Qy5:∀d,dn d .nil=.nil
 |0=>rfl
 |_+1=>rfl
theorem X1:∀(d:Nat)(f:F)(k:Int)(x y:ByteArray)(c r:F),dn d f=.cons k x y c r→dn (d+1) f=c
 |0,f,k,x,y,c,r,h=>by
  simp only[dn]at h;subst h;rfl
 |d+1,.nil,k,x,y,c,r,h=>by cases h
 |d+1,.cons _ _ _ c' _,k,x,y,c,r,h=>X1 d c' k x y c r h
def Bj:Nat→F→List Nd
 |0,_=>[]
 |_+1,.nil=>[]
 |d+1,.cons k x y c _=>⟨k,x,y,c⟩::Bj d c
theorem Yx:∀(d:Nat)(f:F)(k:Int)(x y:ByteArray)(c r:F),dn d f=.cons k x y c r→Bj (d+1) f=Bj d f++[⟨k,x,y,c⟩]∧(Bj d f).length=d
 |0,f,k,x,y,c,r,h=>by
  simp only[dn]at h;subst h;exact⟨rfl,rfl⟩
 |d+1,.nil,k,x,y,c,r,h=>by cases h
 |d+1,.cons k' x' y' c' r',k,x,y,c,r,h=>by
  obtain⟨h1,h2⟩:=Yx d c' k x y c r h;refine⟨?_,by simp[Bj,h2]⟩;rw[show Bj (d+1+1) (.cons k' x' y' c' r')=⟨k',x',y',c'⟩::Bj (d+1) c' from rfl,h1];rfl
theorem pV:∀(d:Nat)(f:F),(dn d f).size+d≤f.size∨dn d f=.nil
 |0,f=>.inl (Nat.le_refl _)
 |d+1,.nil=>.inr rfl
 |d+1,.cons k x y c r=>by
  rcases pV d c with h|h
  ·exact .inl (by simp only[dn,F.size];omega)
  ·exact .inr h
def pl(p:Int)(a:Nat)(d:Nat):Int:=if d=0 then p else(a:Int)+d-1
def tN(d j:Nat)(f:F):List Nd:=Bj d f++nodes (upto j (dn d f))
def tP(p:Int)(a d j:Nat)(f:F):List Int:=(List.range d).map (pl p a)++Jn (pl p a d) (a+d) (upto j (dn d f))
def tS(d j:Nat)(f:F):List Int:=List.replicate d 0++Zt (upto j (dn d f))
def tK(a d j:Nat)(f:F):List (List Nat):=List.replicate d []++Z7 (a+d) (upto j (dn d f))
def Py(a d j m:Nat)(f:F):List (List Nat):=List.replicate d []++(places (a+d+1) (dn (d+1) f)).take m::Z7 (a+d+1) (upto j (dn (d+1) f))
section
variable {p:Int}{a d j m:Nat}{f:F}{k:Int}{x y:ByteArray}{c r:F}
theorem Qzn:tN 0 1 (one k x y c)=nodes (one k x y c)∧tP p a 0 1 (one k x y c)=Jn p a (one k x y c)∧tS 0 1 (one k x y c)=Zt (one k x y c)∧tK a 0 1 (one k x y c)=Z7 a (one k x y c):=by
 refine⟨?_,?_,?_,?_⟩ <;> simp[tN,tP,tS,tK,Bj,dn,one,upto,pl]
theorem Qzl:tN 1 0 (one k x y c)=[⟨k,x,y,c⟩]∧tP p a 1 0 (one k x y c)=[p]∧tS 1 0 (one k x y c)=[0]∧tK a 1 0 (one k x y c)=[[]]:=by
 refine⟨?_,?_,?_,?_⟩ <;> simp[tN,tP,tS,tK,Bj,one,upto,pl,nodes,Jn,Zt,Z7]
theorem Qxp(h:dn d f=.cons k x y c r):tN d 0 f++[⟨k,x,y,c⟩]=tN (d+1) 0 f∧tP p a d 0 f++[pl p a d]=tP p a (d+1) 0 f∧tS d 0 f++[0]=tS (d+1) 0 f∧tK a d 0 f++[[]]=tK a (d+1) 0 f:=by
 refine⟨?_,?_,?_,?_⟩
 ·simp only[tN,upto,nodes,He];exact(Yx d f k x y c r h).1.symm
 ·simp only[tP,upto,Jn,He,List.range_succ,List.map_append];rfl
 ·simp only[tS,upto,Zt,He];exact List.replicate_succ'.symm
 ·simp only[tK,upto,Z7,He];exact List.replicate_succ'.symm
theorem Qqs(h:dn d f=.nil):tN d 0 f=tN d 1 f∧tP p a d 0 f=tP p a d 1 f∧tS d 0 f=tS d 1 f∧tK a d 0 f=tK a d 1 f:=by
 refine⟨?_,?_,?_,?_⟩ <;> simp[tN,tP,tS,tK,h,upto]
theorem Cm(h:dn d f=.cons k x y c r)(j:Nat):(tN (d+1) j f).length=d+1+(upto j c).size∧(tP p a (d+1) j f).length=d+1+(upto j c).size∧(tS (d+1) j f).length=d+1+(upto j c).size∧∀m,(Py a d j m f).length=d+1+(upto j c).size:=by
 have e:=X1 d f k x y c r h;have h1:=(Yx d f k x y c r h);refine⟨?_,?_,?_,fun m=>?_⟩
 ·simp only[tN,ZU,Qj,h1.1,h1.2,e,List.length_cons,List.length_nil]
 ·simp only[tP,ZU,List.length_map,List.length_range,Y1,e]
 ·simp only[tS,ZU,List.length_replicate,E6,e]
 ·simp only[Py,ZU,List.length_replicate,List.length_cons,Vh,e];omega
theorem Qz8(h:dn d f=.cons k x y c r)(j:Nat)(L0:List Nd):(L0++tN (d+1) j f)[L0.length+d]?=some ⟨k,x,y,c⟩:=by
 obtain⟨h1,h2⟩:=Yx d f k x y c r h;rw[GK ω,Nat.add_sub_cancel_left];simp only[tN,h1,JZ];rw[GK ω,h2,Nat.sub_self];rfl
theorem đ(j m:Nat)(h:dn d f=.cons k x y c r)(k0:List (List Nat))(hk:k0.length=a):(k0++Py a d j m f)[a+d]?=some ((places (a+d+1) c).take m):=by
 subst hk;rw[GK ω,Nat.add_sub_cancel_left];simp only[Py];rw[GK ψ,List.length_replicate,Nat.sub_self,X1 d f k x y c r h];rfl
theorem ı{q:Nat}(j m:Nat)(h:dn d f=.cons k x y c r)(k0:List (List Nat))(hk:k0.length=a)(hq:(places (a+d+1) c)[m]?=some q):(k0++Py a d j m f).set (a+d) ((places (a+d+1) c).take m++[q])=k0++Py a d j (m+1) f:=by
 subst hk;rw[List.set_append_right _ _ ω,Nat.add_sub_cancel_left];simp only[Py];rw[List.set_append_right _ _ ψ,List.length_replicate,Nat.sub_self,X1 d f k x y c r h,List.take_add_one,hq];rfl
theorem Qqu:tK a (d+1) 1 f=Py a d 1 0 f:=by
 simp only[tK,Py,List.take_zero,List.replicate_succ',JZ,Nat.add_assoc];rfl
theorem Qfg{j:Nat}(b:Nat)(h:c.drop j=.cons k x y f r):(places b c)[j]?=some (b+(upto j c).size):=by
 have h1:=(K4 j c k x y f r h).2.2.2.1 b;rw[Yr,Yr]at h1;rw[List.take_add_one]at h1;have h2:=List.append_cancel_left h1;cases hp:(places b c)[j]? with
 |none=>rw[hp]at h2;cases h2
 |some q=>rw[hp]at h2;injection h2 with h2 _;rw[h2]
theorem Qzm{k':Int}{x' y':ByteArray}{c' r':F}(hd:dn d f=.cons k x y c r)(h:c.drop j=.cons k' x' y' c' r')(m:Nat):tN (d+1) (j+1) f=tN (d+1) j f++nodes (one k' x' y' c')∧tP p a (d+1) (j+1) f=tP p a (d+1) j f++Jn ((a+d:Nat):Int) (a+(d+1+(upto j c).size)) (one k' x' y' c')∧
 tS (d+1) (j+1) f=tS (d+1) j f++Zt (one k' x' y' c')∧Py a d (j+1) m f=Py a d j m f++Z7 (a+(d+1+(upto j c).size)) (one k' x' y' c'):=by
 have e:=X1 d f k x y c r hd;obtain⟨h1,h2,h3,h4,h5,h6⟩:=K4 j _ k' x' y' c' r' h;refine⟨?_,?_,?_,?_⟩
 ·simp only[tN,e,h1,JZ]
 ·simp only[tP,e,h5,JZ]
  congr 3
  ·unfold pl;rw[if_neg ω];omega
  ·omega
 ·simp only[tS,e,h2,JZ]
 ·simp only[Py,e,h6,JZ,List.cons_append];rw[show a+d+1+(upto j c).size=a+(d+1+(upto j c).size)by omega]
theorem Qz7{z0:List Int}{k0:List (List Nat)}(hd:dn d f=.cons k x y c r)(j m:Nat)(hj:c.len≤j)(hm:c.len≤m):tN (d+1) j f=tN d 1 f∧tP p a (d+1) j f=tP p a d 1 f∧(z0++tS (d+1) j f).set (z0.length+d) (((c.size+1:Nat):Int))=z0++tS d 1 f∧Py a d j m f=tK a d 1 f:=by
 have e:=X1 d f k x y c r hd;obtain⟨h1,h2⟩:=Yx d f k x y c r hd;refine⟨?_,?_,?_,?_⟩
 ·simp only[tN,h1,e,hd,Ga j c hj,upto,nodes,He,JZ];rfl
 ·simp only[tP,e,hd,Ga j c hj,upto,Jn,He,List.range_succ,List.map_append,JZ]
  congr 1
  show pl p a d::Jn (pl p a (d+1)) (a+(d+1)) c=_
  congr 2
  unfold pl;rw[if_neg ω];omega
 ·rw[List.set_append_right _ _ ω,Nat.add_sub_cancel_left];simp only[tS,e,hd,Ga j c hj,upto,Zt,He,List.replicate_succ',JZ];rw[List.set_append_right _ _ ψ,List.length_replicate,Nat.sub_self];rfl
 ·simp only[Py,tK,e,hd,Ga j c hj,upto,Z7,He];rw[List.take_of_length_le (by rw[Jc];exact hm)]
end
theorem ğ:∀(d:Nat)(f:F)(i:Nat),i≤d→dn d f≠.nil→dn i f≠.nil
 |0,f,i,hi,h=>by rw[Nat.le_zero.1 hi];exact h
 |d+1,.nil,i,hi,h=>absurd (Qy5 _) h
 |d+1,.cons k x y c r,0,_,_=>by simp[dn]
 |d+1,.cons k x y c r,i+1,hi,h=>ğ d c i ω h
theorem Qwl{d:Nat}{f:F}(h:dn d f≠.nil):∃k x y c r,dn d f=.cons k x y c r:=by
 cases hf:dn d f with
 |nil=>exact absurd hf h
 |cons k x y c r=>exact⟨k,x,y,c,r,rfl⟩
