import Derived.Test.YtmepekognmlblaaGreatDoorG25
import Derived.BigRegion
set_option maxHeartbeats 8000000
set_option maxRecDepth 100000
set_option linter.unusedVariables false
open Go.ChangeShapes Go.WideShapes Go.ChangeAt Go.RowKit Go.Proofs.Tryz
open _root_.Nat renaming le_refl→QI,zero_add→ZL
open _root_.List renaming mem_cons_self→XG,mem_cons_of_mem→UN,getElem?_map→VP,getElem?_eq_none→YP,length_map→VD,length_append→ZU,append_assoc→JZ,getElem?_append_right→GK,append_nil→He
open Go.Value renaming string→σ,int→ι,slice→ς,bool→τ,agg→ξ
open Go.IntKind renaming i64→γ
open Go.Obj renaming cells→θ
open Go.Ending renaming returned→ρ
namespace Go.Proofs.YtmepekognmlblaaGreatDoor
namespace Match
open Tree Shape
def ah(z:Nat→Nat)(x y:Nat):Prop:=z y<z x∨(z x=z y∧x<y)
theorem ah.trans{z:Nat→Nat}{x y u:Nat}(h:ah z x y)(h':ah z y u):ah z x u:=by unfold ah at *;omega
theorem ah.le{z:Nat→Nat}{x y:Nat}(h:ah z x y):z y≤z x:=by unfold ah at *;omega
theorem ah.ne{z:Nat→Nat}{x y:Nat}(h:ah z x y)(e:z x=z y):x<y:=by unfold ah at *;omega
theorem ah.of{z:Nat→Nat}{x y:Nat}(h:z y≤z x)(h':z x=z y→x<y):ah z x y:=by unfold ah;omega
def sw(d:Nat→Nat)(i j:Nat):Nat→Nat:=fun k=>if k=j then d i else if k=i then d j else d k
def SO(z d:Nat→Nat)(a b:Nat):Prop:=∀i j,a≤i→i<j→j<b→ah z (d i) (d j)
def Pm(a b:Nat)(d d':Nat→Nat):Prop:=∃p q:Nat→Nat,(∀k,q (p k)=k)∧(∀k,p (q k)=k)∧(∀k,(k<a∨b≤k)→p k=k)∧∀k,d' k=d (p k)
section
variable {z d d' d'':Nat→Nat}{a b m:Nat}
theorem SO.mono(h:SO z d a b){a' b':Nat}(h1:a≤a')(h2:b'≤b):SO z d a' b':=fun i j hi hj hb=>h i j ω hj ω
theorem SO.congr(h:SO z d a b)(he:∀k,a≤k→k<b→d' k=d k):SO z d' a b:=fun i j hi hj hb=>by
 rw[he i hi ω,he j ω hb];exact h i j hi hj hb
theorem SO.one(z d:Nat→Nat){a b:Nat}(h:b≤a+1):SO z d a b:=fun i j hi hj hb=>ω
theorem Pm.refl(a b:Nat)(d:Nat→Nat):Pm a b d d:=⟨id,id,fun _=>rfl,fun _=>rfl,fun _ _=>rfl,fun _=>rfl⟩
theorem Pm.trans(h:Pm a b d d')(h':Pm a b d' d''):Pm a b d d'':=by
 obtain⟨p,q,h1,h2,h3,h4⟩:=h;obtain⟨p',q',g1,g2,g3,g4⟩:=h';exact⟨fun k=>p (p' k),fun k=>q' (q k),fun k=>by simp only;rw[h1,g1],fun k=>by simp only;rw[g2,h2],fun k hk=>by simp only;rw[g3 k hk,h3 k hk],fun k=>by simp only;rw[g4,h4]⟩
theorem Pm.mono(h:Pm a b d d'){a' b':Nat}(h1:a'≤a)(h2:b≤b'):Pm a' b' d d':=by
 obtain⟨p,q,g1,g2,g3,g4⟩:=h;exact⟨p,q,g1,g2,fun k hk=>g3 k ω,g4⟩
theorem Pm.out(h:Pm a b d d'){k:Nat}(hk:k<a∨b≤k):d' k=d k:=by
 obtain⟨p,q,g1,g2,g3,g4⟩:=h;rw[g4,g3 k hk]
theorem Pm.of(h:Pm a b d d'){k:Nat}(h1:a≤k)(h2:k<b):∃k',a≤k'∧k'<b∧d' k=d k':=by
 obtain⟨p,q,g1,g2,g3,g4⟩:=h
 have:¬(p k<a∨b≤p k):=fun hp=>by
  have h5:=g3 _ hp;have h6:=congrArg q h5;rw[g1,g1]at h6;omega
 exact⟨p k,ω,ω,g4 k⟩
theorem Pm.symm(h:Pm a b d d'):Pm a b d' d:=by
 obtain⟨p,q,g1,g2,g3,g4⟩:=h
 exact⟨q,p,g2,g1,fun k hk=>by
  have:=congrArg q (g3 k hk);rw[g1]at this;exact this.symm,fun k=>by rw[g4,g2]⟩
theorem Pm.sw(d:Nat→Nat){i j:Nat}(h1:a≤i)(h2:i<b)(h3:a≤j)(h4:j<b):Pm a b d (sw d i j):=by
 refine⟨fun k=>if k=j then i else if k=i then j else k,fun k=>if k=j then i else if k=i then j else k,fun k=>?_,fun k=>?_,fun k hk=>?_,fun k=>?_⟩
 ·simp only;split <;> split <;> (try split) <;> (try split) <;> omega
 ·simp only;split <;> split <;> (try split) <;> (try split) <;> omega
 ·simp only;rw[if_neg ω,if_neg ω]
 ·unfold Match.sw;by_cases c1:k=j
  ·rw[if_pos c1];simp only;rw[if_pos c1]
  ·rw[if_neg c1];simp only;rw[if_neg c1];by_cases c2:k=i
   ·rw[if_pos c2,if_pos c2]
   ·rw[if_neg c2,if_neg c2]
def Qx(d:Nat→Nat)(a m b:Nat):Nat→Nat:=fun k=>if a≤k∧k<a+(b-m)then d (m+(k-a))else if a+(b-m)≤k∧k<b then d (k-(b-m))else d k
def YD(d:Nat→Nat)(a b n:Nat):Nat→Nat:=fun k=>if a≤k∧k<a+n then d (b+(k-a))else if b≤k∧k<b+n then d (a+(k-b))else d k
theorem Qqw(d:Nat→Nat)(a b:Nat):YD d a b 0=d:=by
 funext k;unfold YD
 rw[if_neg ω,if_neg ω]
theorem Qqx(d:Nat→Nat){a b n N:Nat}(h:a+N≤b)(hn:n<N):YD d a b (n+1)=sw (YD d a b n) (a+n) (b+n):=by
 funext k;unfold sw YD
 by_cases h1:k=b+n
 ·subst h1;rw[if_neg ω,if_pos ω,if_pos rfl,if_neg ω,if_neg ω]
  congr 1;omega
 ·rw[if_neg h1];by_cases h2:k=a+n
  ·subst h2;rw[if_pos ω,if_pos rfl,if_neg ω,if_neg ω]
   congr 1;omega
  ·rw[if_neg h2];by_cases h3:a≤k∧k<a+n
   ·rw[if_pos ω,if_pos h3]
   ·rw[if_neg ω,if_neg h3];by_cases h4:b≤k∧k<b+n
    ·rw[if_pos ω,if_pos h4]
    ·rw[if_neg ω,if_neg h4]
theorem Qxy(d:Nat→Nat){m i j:Nat}(hi:i≤m)(h:j<i):Qx d (m-i) m (m+j)=Qx (YD d (m-i) m j) (m-i+j) m (m+j):=by
 funext k;unfold Qx YD
 by_cases h1:m-i≤k∧k<m-i+j
 ·rw[if_pos ω,if_neg ω,if_neg ω,if_pos h1]
 ·rw[if_neg ω];by_cases h2:m-i+j≤k∧k<m-i+j+j
  ·rw[if_pos ω,if_pos ω,if_neg ω,if_pos ω]
   congr 1;omega
  ·rw[if_neg (by omega:¬(m-i+j≤k∧k<m-i+j+(m+j-m)))];by_cases h3:m-i+j+j≤k∧k<m+j
   ·rw[if_pos ω,if_pos ω,if_neg ω,if_neg ω]
   ·rw[if_neg ω,if_neg ω,if_neg ω,if_neg ω]
theorem Qxx(d:Nat→Nat){m i j:Nat}(hi:i≤m)(h:i<j):Qx d (m-i) m (m+j)=Qx (YD d (m-i) (m+j-i) i) (m-i) m (m+(j-i)):=by
 funext k;unfold Qx YD
 by_cases h1:m-i≤k∧k<m-i+(j-i)
 ·rw[if_pos ω,if_pos ω];by_cases h4:m-i≤m+(k-(m-i))∧m+(k-(m-i))<m-i+i
  ·omega
  ·rw[if_neg h4,if_neg ω]
 ·rw[if_neg (by omega:¬(m-i≤k∧k<m-i+(m+(j-i)-m)))];by_cases h2:m-i+(j-i)≤k∧k<m-i+j
  ·rw[if_pos ω,if_pos ω,if_pos ω]
   congr 1;omega
  ·rw[if_neg ω];by_cases h3:m-i+j≤k∧k<m+j
   ·rw[if_pos ω,if_neg ω,if_neg ω,if_pos ω]
    congr 1;omega
   ·rw[if_neg ω,if_neg ω,if_neg ω,if_neg ω]
theorem Qxz(d:Nat→Nat){m i:Nat}(hi:i≤m):Qx d (m-i) m (m+i)=YD d (m-i) m i:=by
 funext k;unfold Qx YD
 by_cases h1:m-i≤k∧k<m-i+i
 ·rw[if_pos ω,if_pos h1]
 ·rw[if_neg ω,if_neg h1];by_cases h2:m≤k∧k<m+i
  ·rw[if_pos ω,if_pos h2]
   congr 1;omega
  ·rw[if_neg ω,if_neg h2]
theorem il(d:Nat→Nat){a m b:Nat}(h:a=m∨m=b):Qx d a m b=d:=by
 funext k;unfold Qx
 split
 ·congr 1;omega
 ·split
  ·congr 1;omega
  ·rfl
theorem Qus(d:Nat→Nat){a e:Nat}(h:a≤e):Qx d a (a+1) (e+2)=sw (Qx d a (a+1) (e+1)) e (e+1):=by
 funext k;unfold sw Qx
 by_cases h1:k=e+1
 ·subst h1;rw[if_neg ω,if_pos ω,if_pos rfl,if_neg ω,if_pos ω]
  congr 1;omega
 ·rw[if_neg h1];by_cases h2:k=e
  ·subst h2;rw[if_pos ω,if_pos rfl,if_neg ω,if_neg ω]
   congr 1;omega
  ·rw[if_neg h2];by_cases h3:a≤k∧k<e
   ·rw[if_pos ω,if_pos ω]
   ·rw[if_neg ω,if_neg ω,if_neg ω,if_neg ω]
theorem Qrt(d:Nat→Nat){k m:Nat}(h:k<m):Qx d k m (m+1)=sw (Qx d (k+1) m (m+1)) (k+1) k:=by
 funext i;unfold sw Qx
 by_cases h1:i=k
 ·subst h1;rw[if_pos ω,if_pos rfl,if_pos ω]
  congr 1;omega
 ·rw[if_neg h1];by_cases h2:i=k+1
  ·subst h2;rw[if_neg ω,if_pos ω,if_pos rfl,if_neg ω,if_neg ω]
   congr 1;omega
  ·rw[if_neg h2];by_cases h3:k+1<i∧i≤m
   ·rw[if_neg ω,if_pos ω,if_neg ω,if_pos ω]
   ·rw[if_neg ω,if_neg ω,if_neg ω,if_neg ω]
theorem pN(d:Nat→Nat){a m b:Nat}(h1:a≤m)(h2:m≤b):Pm a b d (Qx d a m b):=by
 refine⟨fun k=>if a≤k∧k<a+(b-m)then m+(k-a)else if a+(b-m)≤k∧k<b then k-(b-m)else k,fun k=>if m≤k∧k<b then a+(k-m)else if a≤k∧k<m then k+(b-m)else k,fun k=>?_,fun k=>?_,fun k hk=>?_,fun k=>?_⟩
 ·simp only;by_cases c1:a≤k∧k<a+(b-m)
  ·rw[if_pos c1,if_pos ω];omega
  ·rw[if_neg c1];by_cases c2:a+(b-m)≤k∧k<b
   ·rw[if_pos c2,if_neg ω,if_pos ω];omega
   ·rw[if_neg c2,if_neg ω,if_neg ω]
 ·simp only;by_cases c1:m≤k∧k<b
  ·rw[if_pos c1,if_pos ω];omega
  ·rw[if_neg c1];by_cases c2:a≤k∧k<m
   ·rw[if_pos c2,if_neg ω,if_pos ω];omega
   ·rw[if_neg c2,if_neg ω,if_neg ω]
 ·simp only;rw[if_neg ω,if_neg ω]
 ·unfold Qx;by_cases c1:a≤k∧k<a+(b-m)
  ·rw[if_pos c1];simp only;rw[if_pos c1]
  ·rw[if_neg c1];simp only;rw[if_neg c1];by_cases c2:a+(b-m)≤k∧k<b
   ·rw[if_pos c2,if_pos c2]
   ·rw[if_neg c2,if_neg c2]
structure DM(z d:Nat→Nat)(a b i j:Nat):Prop where
 so:∀p q,a≤p→p<q→q≤i→p≠j→q≠j→ah z (d p) (d q)
 up:∀q,j<q→q≤i→ah z (d j) (d q)
 st:∀p q,a≤p→p<q→q≤i→z (d p)=z (d q)→d p<d q
 rs:∀p q,a≤p→p<q→i<q→q<b→d p<d q
theorem DM.start{i:Nat}(h:SO z d a i)(hr:∀p q,a≤p→p<q→i≤q→q<b→d p<d q)(hi:i<b):DM z d a b i i :=
 ⟨fun p q h1 h2 h3 h4 h5=>h p q h1 h2 ω,fun q h1 h2=>ω,fun p q h1 h2 h3 h4=>by
  by_cases e:q=i
  ·exact hr p q h1 h2 ω ω
  ·exact(h p q h1 h2 ω).ne h4,fun p q h1 h2 h3 h4=>hr p q h1 h2 ω h4⟩
theorem DM.step{i j:Nat}(h:DM z d a b i (j+1))(hj:a≤j)(hi:j+1≤i)(hl:z (d j)<z (d (j+1))):DM z (sw d (j+1) j) a b i j:=by
 have TI:sw d (j+1) j j=d (j+1):=by unfold sw;rw[if_pos rfl]
 have Tb:sw d (j+1) j (j+1)=d j:=by unfold sw;rw[if_neg ω,if_pos rfl]
 have hk:∀k,k≠j→k≠j+1→sw d (j+1) j k=d k:=fun k h1 h2=>by unfold sw;rw[if_neg h1,if_neg h2]
 refine⟨fun p q h1 h2 h3 h4 h5=>?_,fun q h1 h2=>?_,fun p q h1 h2 h3 h4=>?_,fun p q h1 h2 h3 h4=>?_⟩
 ·by_cases e1:p=j+1
  ·rw[e1,Tb,hk q h5 ω];exact h.so j q hj ω h3 ω ω
  ·rw[hk p h4 e1];by_cases e2:q=j+1
   ·rw[e2,Tb];exact h.so p j h1 ω ω e1 ω
   ·rw[hk q h5 e2];exact h.so p q h1 h2 h3 e1 e2
 ·rw[TI];by_cases e2:q=j+1
  ·rw[e2,Tb];exact .inl hl
  ·rw[hk q ω e2];exact h.up q ω h2
 ·by_cases e1:p=j+1
  ·rw[e1,Tb,hk q ω ω]at h4⊢;exact h.st j q hj ω h3 h4
  ·by_cases e3:p=j
   ·rw[e3,TI]at h4⊢;by_cases e2:q=j+1
    ·rw[e2,Tb]at h4;omega
    ·rw[hk q ω e2]at h4⊢;exact h.st (j+1) q ω ω h3 h4
   ·rw[hk p e3 e1]at h4⊢;by_cases e2:q=j+1
    ·rw[e2,Tb]at h4⊢;exact h.st p j h1 ω ω h4
    ·by_cases e4:q=j
     ·rw[e4,TI]at h4⊢;exact h.st p (j+1) h1 ω ω h4
     ·rw[hk q e4 e2]at h4⊢;exact h.st p q h1 h2 h3 h4
 ·rw[hk q ω ω];by_cases e1:p=j+1
  ·rw[e1,Tb];exact h.rs j q hj ω h3 h4
  ·by_cases e3:p=j
   ·rw[e3,TI];exact h.rs (j+1) q ω ω h3 h4
   ·rw[hk p e3 e1];exact h.rs p q h1 h2 h3 h4
theorem DM.stop{i j:Nat}(h:DM z d a b i j)(hj:a≤j)(hi:j≤i)(hs:j=a∨z (d j)≤z (d (j-1))):SO z d a (i+1):=by
 have key:a<j→ah z (d (j-1)) (d j):=fun hlt=>by
  have hs:z (d j)≤z (d (j-1)):=by rcases hs with rfl|hs <;> omega
  exact .of hs fun e=>h.st (j-1) j ω ω hi e
 intro p q h1 h2 h3;by_cases e1:p=j
 ·rw[e1];exact h.up q ω ω
 ·by_cases e2:q=j
  ·rw[e2];by_cases e3:p=j-1
   ·rw[e3];exact key ω
   ·exact(h.so p (j-1) h1 ω ω e1 ω).trans (key ω)
  ·exact h.so p q h1 h2 ω e1 e2
def XX(z d:Nat→Nat)(a m b:Nat):Prop:=∀i j,a≤i→i<m→m≤j→j<b→z (d i)=z (d j)→d i<d j
theorem Qot{i:Nat}(h1:SO z d (a+1) b)(hx:XX z d a (a+1) b)(hi:a+1≤i)(hib:i≤b)(hl:∀k,a+1≤k→k<i→z (d a)<z (d k))(hr:∀k,i≤k→k<b→z (d k)≤z (d a)):SO z (Qx d a (a+1) i) a b:=by
 have e1:∀k,a≤k→k<i-1→Qx d a (a+1) i k=d (k+1):=fun k h1 h2=>by unfold Qx;rw[if_pos ω];congr 1;omega
 have e2:Qx d a (a+1) i (i-1)=d a:=by unfold Qx;rw[if_neg ω,if_pos ω];congr 1;omega
 have e3:∀k,i≤k→Qx d a (a+1) i k=d k:=fun k h1=>by unfold Qx;rw[if_neg ω,if_neg ω]
 intro p q g1 g2 g3;by_cases c1:q<i-1
 ·rw[e1 p g1 ω,e1 q ω c1];exact h1 _ _ ω ω ω
 ·by_cases c2:q=i-1
  ·rw[c2,e2,e1 p g1 ω];exact .inl (hl _ ω ω)
  ·rw[e3 q ω];by_cases c3:p<i-1
   ·rw[e1 p g1 c3];exact h1 _ _ ω ω ω
   ·by_cases c4:p=i-1
    ·rw[c4,e2];exact .of (hr q ω g3) fun e=>hx a q ω ω ω g3 e
    ·rw[e3 p ω];exact h1 _ _ ω ω ω
theorem Qsa{i:Nat}(h1:SO z d a m)(hx:XX z d a m (m+1))(hi:a≤i)(him:i≤m)(hl:∀k,a≤k→k<i→z (d m)≤z (d k))(hr:∀k,i≤k→k<m→z (d k)<z (d m)):SO z (Qx d i m (m+1)) a (m+1):=by
 have e1:∀k,i<k→k≤m→Qx d i m (m+1) k=d (k-1):=fun k h1 h2=>by unfold Qx;rw[if_neg ω,if_pos ω];congr 1;omega
 have e2:Qx d i m (m+1) i=d m:=by unfold Qx;rw[if_pos ω];congr 1;omega
 have e3:∀k,k<i→Qx d i m (m+1) k=d k:=fun k h1=>by unfold Qx;rw[if_neg ω,if_neg ω]
 intro p q g1 g2 g3;by_cases c1:q<i
 ·rw[e3 p ω,e3 q c1];exact h1 _ _ ω ω ω
 ·by_cases c2:q=i
  ·rw[c2,e2,e3 p ω];exact .of (hl p g1 ω) fun e=>hx p m g1 ω ω ω e
  ·rw[e1 q ω ω];by_cases c3:p<i
   ·rw[e3 p c3];exact h1 _ _ ω ω ω
   ·by_cases c4:p=i
    ·rw[c4,e2];exact .inl (hr _ ω ω)
    ·rw[e1 p ω ω];exact h1 _ _ ω ω ω
structure VZ(z d:Nat→Nat)(a m b s e:Nat):Prop where
 Am:a≤s
 sm:s≤m
 me:m≤e
 eb:e≤b
 lo:SO z d a m
 hi:SO z d m b
 x:XX z d a m b
 l:∀c y,a≤c→c<s→e≤y→y<b→ah z (d c) (d y)
 r:∀u y,m≤u→u<e→s≤y→y<m→ah z (d u) (d y)
section
variable {s e:Nat}
theorem VZ.pj(h:VZ z d a m b s e){k:Nat}(hk:k<s):Qx d s m e k=d k:=by
 unfold Qx;rw[if_neg ω,if_neg ω]
theorem VZ.pg(h:VZ z d a m b s e){k:Nat}(h1:s≤k)(h2:k<s+(e-m)):Qx d s m e k=d (m+(k-s)):=by
 unfold Qx;rw[if_pos ⟨h1,h2⟩]
theorem VZ.yf(h:VZ z d a m b s e){k:Nat}(h1:s+(e-m)≤k)(h2:k<e):Qx d s m e k=d (k-(e-m)):=by
 unfold Qx;rw[if_neg ω,if_pos ⟨h1,h2⟩]
theorem VZ.ye(h:VZ z d a m b s e){k:Nat}(h1:e≤k):Qx d s m e k=d k:=by
 have:=h.sm;have:=h.me;unfold Qx;rw[if_neg ω,if_neg ω]
theorem VZ.jt(h:VZ z d a m b s e):SO z (Qx d s m e) a s:=fun i j h1 h2 h3=>by
 have:=h.sm;rw[h.pj ω,h.pj h3];exact h.lo i j h1 h2 ω
theorem VZ.Ah(h:VZ z d a m b s e):SO z (Qx d s m e) s (s+(e-m)):=fun i j h1 h2 h3=>by
 have:=h.eb;rw[h.pg h1 ω,h.pg ω h3];exact h.hi _ _ ω ω ω
theorem VZ.so3(h:VZ z d a m b s e):SO z (Qx d s m e) (s+(e-m)) e:=fun i j h1 h2 h3=>by
 have:=h.Am;have:=h.sm;have:=h.me;rw[h.yf h1 ω,h.yf ω h3];exact h.lo _ _ ω ω ω
theorem VZ.so4(h:VZ z d a m b s e):SO z (Qx d s m e) e b:=fun i j h1 h2 h3=>by
 have:=h.me;rw[h.ye h1,h.ye ω];exact h.hi _ _ ω h2 h3
theorem VZ.x1(h:VZ z d a m b s e):XX z (Qx d s m e) a s (s+(e-m)):=fun i j h1 h2 h3 h4 he=>by
 have:=h.sm;have:=h.me;have:=h.eb;rw[h.pj h2,h.pg h3 h4]at he⊢;exact h.x _ _ h1 ω ω ω he
theorem VZ.x2(h:VZ z d a m b s e):XX z (Qx d s m e) (s+(e-m)) e b:=fun i j h1 h2 h3 h4 he=>by
 have:=h.Am;have:=h.sm;have:=h.me;rw[h.yf h1 h2,h.ye h3]at he⊢;exact h.x _ _ ω ω ω h4 he
theorem VZ.all(h:VZ z d a m b s e){i j:Nat}(h1:a≤i)(h2:i<s+(e-m))(h3:s+(e-m)≤j)(h4:j<b):ah z (Qx d s m e i) (Qx d s m e j):=by
 have:=h.Am;have:=h.sm;have:=h.me;have:=h.eb;by_cases c1:i<s
 ·rw[h.pj c1];by_cases c2:j<e
  ·rw[h.yf h3 c2];exact h.lo _ _ h1 ω ω
  ·rw[h.ye ω];exact h.l _ _ h1 c1 ω h4
 ·rw[h.pg ω h2];by_cases c2:j<e
  ·rw[h.yf h3 c2];exact h.r _ _ ω ω ω ω
  ·rw[h.ye ω];exact h.hi _ _ ω ω h4
theorem VZ.done(h:VZ z d a m b s e){f g:Nat→Nat}(h1:Pm a (s+(e-m)) (Qx d s m e) f)(h2:SO z f a (s+(e-m)))(h3:Pm (s+(e-m)) b f g)(h4:SO z g (s+(e-m)) b):SO z g a b∧Pm a b d g:=by
 have:=h.Am;have:=h.sm;have:=h.me;have:=h.eb
 constructor
 ·intro i j g1 g2 g3;by_cases c1:j<s+(e-m)
  ·rw[h3.out (.inl ω),h3.out (.inl c1)];exact h2 i j g1 g2 c1
  ·by_cases c2:i<s+(e-m)
   ·rw[h3.out (.inl c2)];obtain⟨i',q1,q2,q3⟩:=h1.of g1 c2;obtain⟨j',r1,r2,r3⟩:=h3.of (k:=j) ω g3;rw[q3,r3,h1.out (.inr r1)];exact h.all q1 q2 r1 r2
   ·exact h4 i j ω g2 g3
 ·refine((pN d h.sm h.me).mono h.Am h.eb).trans ((h1.mono (QI _) ω).trans (h3.mono ω (QI _)))
end
theorem Qy9{mid n s0 r0 s:Nat}(hab:a<m)(hmb:m<b)(hmid:mid=(a+b)/2)(hn:n=mid+m)(hs0:s0=if m>mid then n-b else a)(VN:r0=if m>mid then mid else m)
 (h1:s0≤s) (h2:s≤r0) (lo:SO z d a m) (hi:SO z d m b) (x:XX z d a m b)
 (hl:∀c,s0≤c→c<s→z (d (n-1-c))≤z (d c)) (hr:∀c,s≤c→c<r0→z (d c)<z (d (n-1-c))):VZ z d a m b s (n-s)∧s+(n-s-m)=mid:=by
 by_cases hm:m>mid
 ·rw[if_pos hm]at hs0 VN;refine⟨⟨ω,ω,ω,ω,lo,hi,x,fun c y g1 g2 g3 g4=>?_,fun u y g1 g2 g3 g4=>?_⟩,ω⟩
  ·have h5:=hl (s-1) ω ω;rw[show n-1-(s-1)=n-s by omega]at h5;have h6:z (d (s-1))≤z (d c):=by
    by_cases e:c=s-1
    ·exact Nat.le_of_eq (by rw[e])
    ·exact(lo c (s-1) g1 ω ω).le
   have h7:z (d y)≤z (d (n-s)):=by
    by_cases e:y=n-s
    ·exact Nat.le_of_eq (by rw[e])
    ·exact(hi (n-s) y ω ω g4).le
   exact .of ω fun e=>x c y g1 ω ω g4 e
  ·by_cases e0:s=r0
   ·omega
   ·have h5:=hr s ω ω;have h6:z (d y)≤z (d s):=by
     by_cases e:y=s
     ·exact Nat.le_of_eq (by rw[e])
     ·exact(lo s y ω ω g4).le
    have h7:z (d (n-1-s))≤z (d u):=by
     by_cases e:u=n-1-s
     ·exact Nat.le_of_eq (by rw[e])
     ·exact(hi u (n-1-s) g1 ω ω).le
    exact .inl ω
 ·rw[if_neg hm]at hs0 VN;refine⟨⟨ω,ω,ω,ω,lo,hi,x,fun c y g1 g2 g3 g4=>?_,fun u y g1 g2 g3 g4=>?_⟩,ω⟩
  ·have h5:=hl (s-1) ω ω;rw[show n-1-(s-1)=n-s by omega]at h5;have h6:z (d (s-1))≤z (d c):=by
    by_cases e:c=s-1
    ·exact Nat.le_of_eq (by rw[e])
    ·exact(lo c (s-1) g1 ω ω).le
   have h7:z (d y)≤z (d (n-s)):=by
    by_cases e:y=n-s
    ·exact Nat.le_of_eq (by rw[e])
    ·exact(hi (n-s) y ω ω g4).le
   exact .of ω fun e=>x c y g1 ω ω g4 e
  ·by_cases e0:s=r0
   ·omega
   ·have h5:=hr s ω ω;have h6:z (d y)≤z (d s):=by
     by_cases e:y=s
     ·exact Nat.le_of_eq (by rw[e])
     ·exact(lo s y ω ω g4).le
    have h7:z (d (n-1-s))≤z (d u):=by
     by_cases e:u=n-1-s
     ·exact Nat.le_of_eq (by rw[e])
     ·exact(hi u (n-1-s) g1 ω ω).le
    exact .inl ω
theorem Qwn{mid n s0 r0 s c:Nat}(hab:a<m)(hmb:m<b)(hmid:mid=(a+b)/2)(hn:n=mid+m)(hs0:s0=if m>mid then n-b else a)(VN:r0=if m>mid then mid else m)
 (lo:SO z d a m) (hi:SO z d m b) (h1:s0≤c) (h2:c<r0) (hc:z (d (n-1-c))≤z (d c)):∀k,s0≤k→k<c+1→z (d (n-1-k))≤z (d k):=by
 intro k g1 g2;by_cases e:k=c
 ·rw[e];exact hc
 ·have hm:a≤k∧c<m∧m≤n-1-c∧n-1-k<b:=by
   by_cases hm:m>mid
   ·rw[if_pos hm]at hs0 VN;omega
   ·rw[if_neg hm]at hs0 VN;omega
  have h5:=(lo k c hm.1 ω hm.2.1).le;have h6:=(hi (n-1-c) (n-1-k) hm.2.2.1 ω hm.2.2.2).le;omega
theorem Qtr{mid n s0 r0 s c:Nat}(hab:a<m)(hmb:m<b)(hmid:mid=(a+b)/2)(hn:n=mid+m)(hs0:s0=if m>mid then n-b else a)(VN:r0=if m>mid then mid else m)
 (lo:SO z d a m) (hi:SO z d m b) (h1:s0≤c) (h2:c<r0) (hc:z (d c)<z (d (n-1-c))):∀k,c≤k→k<r0→z (d k)<z (d (n-1-k)):=by
 intro k g1 g2;by_cases e:k=c
 ·rw[e];exact hc
 ·have hm:a≤c∧k<m∧m≤n-1-k∧n-1-c<b:=by
   by_cases hm:m>mid
   ·rw[if_pos hm]at hs0 VN;omega
   ·rw[if_neg hm]at hs0 VN;omega
  have h5:=(lo c k hm.1 ω hm.2.1).le;have h6:=(hi (n-1-k) (n-1-c) hm.2.2.1 ω hm.2.2.2).le;omega
def qw(d:Nat→Nat)(n c:Nat):Prop:=∀i j,i<c→c≤j→j<n→d i<d j
theorem qw.keep{n c:Nat}(h:qw d n c)(hp:Pm a b d d')(hb:b≤n)(hc:c≤a∨b≤c):qw d' n c:=by
 intro i j h1 h2 h3;have hi:∃i',i'<c∧d' i=d i':=by
  by_cases c1:i<a∨b≤i
  ·exact⟨i,h1,hp.out c1⟩
  ·obtain⟨k,q1,q2,q3⟩:=hp.of (k:=i) ω ω;exact⟨k,ω,q3⟩
 have hj:∃j',c≤j'∧j'<n∧d' j=d j':=by
  by_cases c1:j<a∨b≤j
  ·exact⟨j,h2,h3,hp.out c1⟩
  ·obtain⟨k,q1,q2,q3⟩:=hp.of (k:=j) ω ω;exact⟨k,ω,ω,q3⟩
 obtain⟨i',q1,q2⟩:=hi;obtain⟨j',r1,r2,r3⟩:=hj;rw[q2,r3];exact h i' j' q1 r1 r2
theorem SO.keep{u v:Nat}(h:SO z d u v)(hp:Pm a b d d')(hc:v≤a∨b≤u):SO z d' u v:=h.congr fun k h1 h2=>hp.out ω
structure Bx(z d:Nat→Nat)(n t:Nat):Prop where
 so:∀u,SO z d (u*t) (min (u*t+t) n)
 cut:∀u,qw d n (u*t)
structure Ins(z d:Nat→Nat)(n t s:Nat):Prop where
 so:∀u,u<s→SO z d (u*t) (u*t+t)
 cut:∀u,qw d n (u*t)
 BV:∀i j,i<j→s*t≤j→j<n→d i<d j
theorem Ins.zero{n t:Nat}(h:∀i j,i<j→j<n→d i<d j):Ins z d n t 0:=⟨fun u hu=>ω,fun u i j h1 h2 h3=>h i j ω h3,fun i j h1 _ h3=>h i j h1 h3⟩
theorem Ins.step{n t s:Nat}(h:Ins z d n t s)(hb:s*t+t≤n)(hp:Pm (s*t) (s*t+t) d d')(ho:SO z d' (s*t) (s*t+t)):Ins z d' n t (s+1):=by
 have hm:∀u,u<s→u*t+t≤s*t:=fun u hu=>by
  have:=Nat.mul_le_mul_right t (show u+1≤s from hu);rw[Nat.succ_mul]at this;exact this
 have hm':∀u,s<u→s*t+t≤u*t:=fun u hu=>by
  have:=Nat.mul_le_mul_right t (show s+1≤u from hu);rw[Nat.succ_mul]at this;exact this
 refine⟨fun u hu=>?_,fun u=>(h.cut u).keep hp hb ?_,fun i j h1 h2 h3=>?_⟩
 ·by_cases e:u=s
  ·rw[e];exact ho
  ·exact(h.so u ω).keep hp (.inl (hm u ω))
 ·by_cases e:u≤s
  ·left
   exact Nat.mul_le_mul_right t e
  ·right;exact hm' u ω
 ·rw[Nat.succ_mul]at h2;rw[hp.out (k:=j) (.inr h2)];by_cases c1:i<s*t∨s*t+t≤i
  ·rw[hp.out c1];exact h.BV i j h1 ω h3
  ·obtain⟨k,q1,q2,q3⟩:=hp.of (k:=i) ω ω;rw[q3];exact h.BV k j ω ω h3
theorem Ins.done{n t s:Nat}(h:Ins z d n t s)(hb:n<s*t+t)(hs:s*t≤n)(hp:Pm (s*t) n d d')(ho:SO z d' (s*t) n):Bx z d' n t:=by
 have hm:∀u,u<s→u*t+t≤s*t:=fun u hu=>by
  have:=Nat.mul_le_mul_right t (show u+1≤s from hu);rw[Nat.succ_mul]at this;exact this
 have hm':∀u,s<u→s*t+t≤u*t:=fun u hu=>by
  have:=Nat.mul_le_mul_right t (show s+1≤u from hu);rw[Nat.succ_mul]at this;exact this
 refine⟨fun u=>?_,fun u=>(h.cut u).keep hp (QI _) ?_⟩
 ·by_cases e:u=s
  ·rw[e];exact ho.mono (QI _) ω
  ·by_cases e':u<s
   ·exact((h.so u e').keep hp (.inl (hm u e'))).mono (QI _) ω
   ·have:=hm' u ω;exact .one _ _ ω
 ·by_cases e:u≤s
  ·left;exact Nat.mul_le_mul_right t e
  ·right;have:=hm' u ω;omega
structure NK(z d:Nat→Nat)(n t s:Nat):Prop where
 jt:∀u,u<s→SO z d (u*(2*t)) (u*(2*t)+2*t)
 cu1:∀u,qw d n (u*(2*t))
 Ah:∀v,SO z d (s*(2*t)+v*t) (min (s*(2*t)+v*t+t) n)
 cu2:∀v,qw d n (s*(2*t)+v*t)
theorem Bx.mrg{n t:Nat}(h:Bx z d n t):NK z d n t 0 :=
 ⟨fun u hu=>ω,fun u=>by rw[←Nat.mul_assoc];exact h.cut _,fun v=>by rw[Nat.zero_mul,ZL];exact h.so v,fun v=>by rw[Nat.zero_mul,ZL];exact h.cut v⟩
theorem NK.pre{n t s:Nat}(h:NK z d n t s){b:Nat}(h1:s*(2*t)+t≤b)(h2:b≤s*(2*t)+2*t)(h3:b≤n):SO z d (s*(2*t)) (s*(2*t)+t)∧SO z d (s*(2*t)+t) b∧XX z d (s*(2*t)) (s*(2*t)+t) b:=by
 have a0:=h.Ah 0;have a1:=h.Ah 1;have a2:=h.cu2 1;rw[Nat.zero_mul,Nat.add_zero]at a0;rw[Nat.one_mul]at a1 a2;exact⟨a0.mono (QI _) ω,a1.mono (QI _) ω,fun i j g1 g2 g3 g4 _=>a2 i j g2 g3 ω⟩
theorem NK.step{n t s:Nat}(h:NK z d n t s)(hb:s*(2*t)+2*t≤n)(hp:Pm (s*(2*t)) (s*(2*t)+2*t) d d')(ho:SO z d' (s*(2*t)) (s*(2*t)+2*t)):NK z d' n t (s+1):=by
 have hm:∀u,u<s→u*(2*t)+2*t≤s*(2*t):=fun u hu=>by
  have:=Nat.mul_le_mul_right (2*t) (show u+1≤s from hu);rw[Nat.succ_mul]at this;exact this
 have hm':∀u,s<u→s*(2*t)+2*t≤u*(2*t):=fun u hu=>by
  have:=Nat.mul_le_mul_right (2*t) (show s+1≤u from hu);rw[Nat.succ_mul]at this;exact this
 have hv:∀v,(s+1)*(2*t)+v*t=s*(2*t)+(v+2)*t:=fun v=>by rw[Nat.succ_mul,Nat.add_mul];omega
 refine⟨fun u hu=>?_,fun u=>(h.cu1 u).keep hp hb ?_,fun v=>?_,fun v=>?_⟩
 ·by_cases e:u=s
  ·rw[e];exact ho
  ·exact(h.jt u ω).keep hp (.inl (hm u ω))
 ·by_cases e:u≤s
  ·left;exact Nat.mul_le_mul_right _ e
  ·right;exact hm' u ω
 ·rw[hv];exact(h.Ah (v+2)).keep hp (.inr (by rw[Nat.add_mul];omega))
 ·rw[hv];exact(h.cu2 (v+2)).keep hp hb (.inr (by rw[Nat.add_mul];omega))
theorem NK.done{n t s:Nat}(h:NK z d n t s)(hb:n<s*(2*t)+2*t)(hs:s*(2*t)≤n)(hp:Pm (s*(2*t)) n d d')(ho:SO z d' (s*(2*t)) n):Bx z d' n (2*t):=by
 have hm:∀u,u<s→u*(2*t)+2*t≤s*(2*t):=fun u hu=>by
  have:=Nat.mul_le_mul_right (2*t) (show u+1≤s from hu);rw[Nat.succ_mul]at this;exact this
 have hm':∀u,s<u→s*(2*t)+2*t≤u*(2*t):=fun u hu=>by
  have:=Nat.mul_le_mul_right (2*t) (show s+1≤u from hu);rw[Nat.succ_mul]at this;exact this
 refine⟨fun u=>?_,fun u=>(h.cu1 u).keep hp (QI _) ?_⟩
 ·by_cases e:u=s
  ·rw[e];exact ho.mono (QI _) ω
  ·by_cases e':u<s
   ·exact((h.jt u e').keep hp (.inl (hm u e'))).mono (QI _) ω
   ·have:=hm' u ω;exact .one _ _ ω
 ·by_cases e:u≤s
  ·left;exact Nat.mul_le_mul_right _ e
  ·right;have:=hm' u ω;omega
theorem NK.last{n t s:Nat}(h:NK z d n t s)(hb:n≤s*(2*t)+t):SO z d (s*(2*t)) n:=by
 have a0:=h.Ah 0;rw[Nat.zero_mul,Nat.add_zero]at a0;exact a0.mono (QI _) ω
theorem Bx.all{n t:Nat}(h:Bx z d n t)(hn:n≤t):SO z d 0 n:=by
 have:=h.so 0;rw[Nat.zero_mul,ZL]at this;exact this.mono (QI _) ω
end
theorem Qec{R:Nat→Nat→Prop}(hR:∀x y,R x y→¬R y x):∀{l l':List Nat},(∀x,x∈l↔x∈l')→l.Pairwise R→l'.Pairwise R→l=l'
 |[],[],_,_,_=>rfl
 |[],y::t,hm,_,_=>by have:=(hm y).2 (XG ..);cases this
 |x::r,[],hm,_,_=>by have:=(hm x).1 (XG ..);cases this
 |x::r,y::t,hm,h1,h2=>by
  have a1:=List.pairwise_cons.1 h1;have a2:=List.pairwise_cons.1 h2;have hi:∀x,¬R x x:=fun x h=>hR x x h h
  have e:x=y:=by
   rcases List.mem_cons.1 ((hm x).1 (XG ..))with e|m1
   ·exact e
   ·rcases List.mem_cons.1 ((hm y).2 (XG ..))with e|m2
    ·exact e.symm
    ·exact absurd (a1.1 y m2) (hR _ _ (a2.1 x m1))
  subst e;rw[Qec hR (fun u=>?_) a1.2 a2.2]
  constructor
  ·intro hu;rcases List.mem_cons.1 ((hm u).1 (UN _ hu))with e|h
   ·exact absurd (a1.1 u hu) (by rw[e];exact hi x)
   ·exact h
  ·intro hu;rcases List.mem_cons.1 ((hm u).2 (UN _ hu))with e|h
   ·exact absurd (a2.1 u hu) (by rw[e];exact hi x)
   ·exact h
theorem Quk(s:Sd){l:List Nat}(hl:l.Pairwise (·<·)){d d':Nat→Nat}(he:l=(List.range l.length).map d)(hp:Pm 0 l.length d d')(hs:SO s.sz d' 0 l.length):(List.range l.length).map d'=J7 s l:=by
 refine Qec (Ql6 s) (fun x=>?_) ?_ (iK s l hl).2
 ·rw[(iK s l hl).1.mem_iff]
  constructor
  ·intro hx;obtain⟨i,hi,rfl⟩:=List.mem_map.1 hx;obtain⟨k,_,h2,h3⟩:=hp.of (k:=i) ω (List.mem_range.1 hi);rw[h3,he];exact List.mem_map.2 ⟨k,List.mem_range.2 h2,rfl⟩
  ·intro hx;rw[he]at hx;obtain⟨i,hi,rfl⟩:=List.mem_map.1 hx;obtain⟨k,_,h2,h3⟩:=hp.symm.of (k:=i) ω (List.mem_range.1 hi);rw[h3];exact List.mem_map.2 ⟨k,List.mem_range.2 h2,rfl⟩
 ·rw[List.pairwise_map];refine List.Pairwise.imp_of_mem ?_ List.pairwise_lt_range;intro i j hi hj hij;have:=hs i j ω hij (List.mem_range.1 hj);unfold ah at this;unfold ahead;simp only[Bool.or_eq_true,Bool.and_eq_true,decide_eq_true_eq];omega
open Mem
def zE(d:Nat→Nat)(j x:Nat):Nat→Nat:=fun i=>if i=j then x else d i
theorem Qqk(d:Nat→Nat)(j x:Nat):zE d j x j=x:=by unfold zE;rw[if_pos rfl]
theorem Qxo(d:Nat→Nat){i j:Nat}(x:Nat)(h:i≠j):zE d j x i=d i:=by unfold zE;rw[if_neg h]
def dV(n:Nat)(d:Nat→Nat)(r:List Value):List Value:=(List.range n).map (fun k=>ι γ (d k:Int))++r
theorem Qz4{n i:Nat}(d:Nat→Nat)(r:List Value)(h:i<n):(dV n d r)[i]?=some (ι γ (d i:Int)):=by
 unfold dV;rw[List.getElem?_append_left (by rw[VD,List.length_range];exact h),VP,List.getElem?_range h];rfl
theorem Qy8(n:Nat)(d:Nat→Nat)(r:List Value):n≤(dV n d r).length:=by
 unfold dV;rw[List.length_append,VD,List.length_range];omega
theorem Qy7{n i:Nat}(d:Nat→Nat)(r:List Value)(h:i<n)(x:Nat):(dV n d r).set i (ι γ (x:Int))=dV n (zE d i x) r:=by
 unfold dV;rw[List.set_append_left _ _ (by rw[VD,List.length_range];exact h)]
 congr 1
 apply List.ext_getElem?;intro k;rw[List.getElem?_set,VD,List.length_range];by_cases hk:k<n
 ·rw[VP,VP,List.getElem?_range hk];by_cases e:i=k
  ·subst e;rw[if_pos rfl,if_pos h];simp[Qqk]
  ·rw[if_neg e];simp[Qxo d x (fun h=>e h.symm)]
 ·rw[if_neg ω,YP (by rw[VD,List.length_range];omega),YP (by rw[VD,List.length_range];omega)]
abbrev ZP(W:World)(g n:Nat)(d:Nat→Nat)(r:List Value):Prop:=ZY W g 3 (dV n d r)
section
variable {w W:World}{g n:Nat}{d:Nat→Nat}{r:List Value}
theorem ZP.cell(h:ZP W g n d r){i:Nat}(hi:i<n):W.cell? ⟨g,i,none⟩=some (ι γ (d i:Int))∧W.frozen? ⟨g,i,none⟩=false:=⟨ZY.at_ h (Qz4 d r hi),ZY.free h i⟩
theorem ZP.put(h:ZP W g n d r){i:Nat}(hi:i<n)(x:Nat):ZP (W.setCell ⟨g,i,none⟩ (ι γ (x:Int))) g n (zE d i x) r:=by
 have:=ZY.set h (i:=i) (Nat.lt_of_lt_of_le hi (Qy8 n d r)) (ι γ (x:Int));rw[Qy7 d r hi]at this;exact this
theorem ZP.swap(h:ZP W g n d r){i j:Nat}(hi:i<n)(hj:j<n):ZP ((W.setCell ⟨g,i,none⟩ (ι γ (d j:Int))).setCell ⟨g,j,none⟩ (ι γ (d i:Int))) g n (sw d i j) r :=
 (h.put hi (d j)).put hj (d i)
theorem Um(W:World)(g i j:Nat)(x y:Value):QB g g W ((W.setCell ⟨g,i,none⟩ x).setCell ⟨g,j,none⟩ y):=(rL g i x (.inl rfl)).trans (rL g j y (.inl rfl))
end
def yu(w:World)(g n:Nat)(d:Nat→Nat)(r:List Value)(e:Ending)(w':World):Prop:=e=ρ (.tuple #[])∧QB g g w w'∧ZP w' g n d r
theorem X5{w:World}{g n:Nat}{d:Nat→Nat}{r:List Value}(h:ZP w g n d r)(C a b m:Nat)(cmp:Value)(hab:a+m≤b)(hb:b+m≤n)(hn:n≤1000000) :
 Calls Tryz.prog 146 #[ς (some ⟨g,0,none⟩) n C,ι γ (a:Int),ι γ (b:Int),ι γ (m:Int),cmp] w (yu w g n (YD d a b m) r):=by
 have HD:Hid (QB g g w w∧ZP w g n (YD d a b 0) r):=⟨QB.refl g g w,by rw[Qqw];exact h⟩;clear h;go_enter Tryz.func146,Tryz.ntmps146;go_wp2
 go_loopw [10] (fun JQ wr=>∃i:Nat,i≤m∧JQ=ι γ (i:Int)∧Hid (QB g g w wr∧ZP wr g n (YD d a b i) r)) (fun s _=>m-(intOf s).toNat)
 case atStart=>exact⟨0,Nat.zero_le _,rfl,HD⟩
 case round =>
  clear HD;obtain⟨i,hi,rfl,HD⟩:=hrel;by_cases hlt:i<m
  ·have hlt':(i:Int)<(m:Int):=ω
   obtain⟨ai,hai⟩:=Mem.QD (a+i);obtain⟨bi,hbi⟩:=Mem.QD (b+i);obtain⟨p1,f1⟩:=HD.out.2.cell (i:=ai) ω;obtain⟨p2,f2⟩:=HD.out.2.cell (i:=bi) ω;have HN:Hid (∀q,QB g g w (((wr.setCell ⟨g,ai,none⟩ (ι γ (YD d a b i bi:Int))).setCell ⟨g,bi,none⟩ (ι γ (YD d a b i ai:Int))).drewN q)∧ZP (((wr.setCell ⟨g,ai,none⟩ (ι γ (YD d a b i bi:Int))).setCell ⟨g,bi,none⟩ (ι γ (YD d a b i ai:Int))).drewN q) g n (YD d a b (i+1)) r):=by intro q;refine⟨(HD.out.1.trans (Um _ _ _ _ _ _)).trans (QB.drewN _ q),?_⟩;rw[Qqx d hab hlt,hai,hbi];exact HD.out.2.swap (W:=wr) ω ω
   generalize YD d a b i ai=x at *;generalize YD d a b i bi=y at *;have w1:IntKind.i64.wrap ((a:Int)+(i:Int))=(ai:Int):=by rw[IntKind.wrap_i64];omega
   have w2:IntKind.i64.wrap ((b:Int)+(i:Int))=(bi:Int):=by rw[IntKind.wrap_i64];omega
   have t1:(0:Int)≤(ai:Int):=ω
   have t2:(ai:Int)<(n:Int):=ω
   have t3:(0:Int)≤(bi:Int):=ω
   have t4:(bi:Int)<(n:Int):=ω
   have n1:bi≠ai:=ω
   have hm:m≤1000000:=ω
   have n2:ai≠bi:=ω
   have XW:=Lib.hid hlt;clear HD hai hbi hlt hab hb;go_wp2
   go_region
   go_wp2
   go_roundw
   case rel=>exact⟨i+1,by have:=XW.out;omega,by go_num,HN.out _⟩
   case measure=>have:=XW.out;simp[intOf];omega
  ·obtain rfl:i=m:=ω
   have hlt':¬(i:Int)<(i:Int):=ω
   go_wp2
   go_end0
   exact⟨rfl,HD.out.1,HD.out.2⟩
theorem Qkr{w:World}{g n:Nat}{d:Nat→Nat}{r:List Value}(h:ZP w g n d r)(C a m b:Nat)(cmp:Value)(vg:a<m)(hmb:m<b)(hb:b≤n)(hn:n≤1000000) :
 Calls prog 138 #[ς (some ⟨g,0,none⟩) n C,ι γ (a:Int),ι γ (m:Int),ι γ (b:Int),cmp] w (yu w g n (Qx d a m b) r):=by
 obtain⟨i0,hi0⟩:=Mem.QD (m-a);obtain⟨j0,Mf⟩:=Mem.QD (b-m);have HD:Hid ((QB g g w w∧ZP w g n d r)∧Qx d a m b=Qx d (m-i0) m (m+j0)):=⟨⟨QB.refl g g w,h⟩,by rw[show m-i0=a by omega,show m+j0=b by omega]⟩;have w1:IntKind.i64.wrap ((m:Int)-(a:Int))=(i0:Int):=by rw[IntKind.wrap_i64];omega
 have w2:IntKind.i64.wrap ((b:Int)-(m:Int))=(j0:Int):=by rw[IntKind.wrap_i64];omega
 have hi1:0<i0:=ω
 have hi2:i0≤m:=ω
 have TI:0<j0:=ω
 have Tb:m+j0≤n:=ω
 have hm:m≤1000000:=ω
 generalize Qx d a m b=R at *;clear h hi0 Mf vg hmb hb;go_enter func138,ntmps138;go_wp2;clear w1 w2
 go_loopw [10,11] (fun JQ GA wr=>∃(i j:Nat)(d':Nat→Nat),(0<i∧i≤m∧0<j∧m+j≤n)∧JQ=ι γ (i:Int)∧GA=ι γ (j:Int)∧Hid ((QB g g w wr∧ZP wr g n d' r)∧R=Qx d' (m-i) m (m+j))) (fun s t _=>(intOf s).toNat+(intOf t).toNat)
 case atStart=>exact⟨i0,j0,d,⟨hi1,hi2,TI,Tb⟩,rfl,rfl,HD⟩
 case round =>
  clear HD hi1 hi2 TI Tb;obtain⟨i,j,d',⟨hi1,hi2,TI,Tb⟩,rfl,rfl,HD⟩:=hrel;obtain⟨mi,Wp⟩:=Mem.QD (m-i);have w1:IntKind.i64.wrap ((m:Int)-(i:Int))=(mi:Int):=by rw[IntKind.wrap_i64];omega
  by_cases hij:i=j
  ·subst hij;have hne:((i:Int) != (i:Int))=false:=ψ
   have yY:Hid (Calls prog 146 #[ς (some ⟨g,0,none⟩) n C,ι γ (mi:Int),ι γ (m:Int),ι γ (i:Int),cmp] wr (yu wr g n R r)):=by have:=X5 HD.out.1.2 C mi m i cmp ω ω hn;rw[HD.out.2,Qxz d' hi2,Wp];exact this
   clear Wp;go_wp2_with fail;refine yY.out.mono ?_;rintro e w9 ⟨rfl,ht,hd⟩;have HT:=Lib.hid (HD.out.1.1.trans ht);have SH:=Lib.hid hd;clear ht hd;go_wp2
   go_end0
   exact⟨rfl,HT.out,SH.out⟩
  ·have hne:((i:Int) != (j:Int))=true:=by simp;omega
   by_cases hgt:j<i
   ·have WB:(j:Int)<(i:Int):=ω
    obtain⟨k,hk⟩:=Mem.QD (i-j);have w2:IntKind.i64.wrap ((i:Int)-(j:Int))=(k:Int):=by rw[IntKind.wrap_i64];omega
    have yY:Hid (Calls prog 146 #[ς (some ⟨g,0,none⟩) n C,ι γ (mi:Int),ι γ (m:Int),ι γ (j:Int),cmp] wr (yu wr g n (YD d' mi m j) r)):=X5 HD.out.1.2 C mi m j cmp ω ω hn;have HR:Hid (R=Qx (YD d' mi m j) (m-k) m (m+j)):=by show _=_;rw[HD.out.2,Qxy d' hi2 hgt,Wp,show mi+j=m-k by omega]
    have HK:Hid ((0<k∧k≤m)∧k<i):=⟨⟨ω,ω⟩,ω⟩;clear Wp hk hne hij;have hne:((i:Int) != (j:Int))=true:=by simp;omega
    go_wp2_with fail;refine yY.out.mono ?_;rintro e w9 ⟨rfl,ht,hd⟩;have SH:Hid ((QB g g w w9∧ZP w9 g n (YD d' mi m j) r)∧R=Qx (YD d' mi m j) (m-k) m (m+j)):=⟨⟨HD.out.1.1.trans ht,hd⟩,HR.out⟩;clear ht hd HD;go_wp2
    go_roundw
    case rel=>exact⟨k,j,_,⟨HK.out.1.1,HK.out.1.2,TI,Tb⟩,rfl,rfl,SH⟩
    case measure=>have:=HK.out.2;simp[intOf];omega
   ·have WB:¬(j:Int)<(i:Int):=ω
    obtain⟨k,hk⟩:=Mem.QD (j-i);obtain⟨mj,hmj⟩:=Mem.QD (m+j);obtain⟨mk,hmk⟩:=Mem.QD (mj-i);have w2:IntKind.i64.wrap ((j:Int)-(i:Int))=(k:Int):=by rw[IntKind.wrap_i64];omega
    have w3:IntKind.i64.wrap ((m:Int)+(j:Int))=(mj:Int):=by rw[IntKind.wrap_i64];omega
    have w4:IntKind.i64.wrap ((mj:Int)-(i:Int))=(mk:Int):=by rw[IntKind.wrap_i64];omega
    have yY:Hid (Calls prog 146 #[ς (some ⟨g,0,none⟩) n C,ι γ (mi:Int),ι γ (mk:Int),ι γ (i:Int),cmp] wr (yu wr g n (YD d' mi mk i) r)):=X5 HD.out.1.2 C mi mk i cmp ω ω hn;have HR:Hid (R=Qx (YD d' mi mk i) (m-i) m (m+k)):=by show _=_;rw[HD.out.2,Qxx d' hi2 ω,Wp,hmj,hmk,hk]
    have HK:Hid ((0<k∧m+k≤n)∧k<j):=⟨⟨ω,ω⟩,ω⟩;clear Wp hk hmj hmk hij;go_wp2_with fail;refine yY.out.mono ?_;rintro e w9 ⟨rfl,ht,hd⟩;have SH:Hid ((QB g g w w9∧ZP w9 g n (YD d' mi mk i) r)∧R=Qx (YD d' mi mk i) (m-i) m (m+k)):=⟨⟨HD.out.1.1.trans ht,hd⟩,HR.out⟩;clear ht hd HD;go_wp2
    go_roundw
    case rel=>exact⟨i,k,_,⟨hi1,hi2,HK.out.1.1,HK.out.1.2⟩,rfl,rfl,SH⟩
    case measure=>have:=HK.out.2;simp[intOf];omega
def Uf(w:World)(g gf:Nat)(caps:Array Value)(z:Nat→Nat)(K:Nat):Prop :=
 Vp gf∧∀W,QB g g w W→∀x y:Nat,x<K→y<K→Calls prog gf (#[ι γ (x:Int),ι γ (y:Int)]++caps) W fun e W'=>e=ρ (ι γ ((z y:Int)-(z x:Int)))∧∃q,W'=W.drewN q
theorem Uf.turn{w w':World}{g gf:Nat}{caps:Array Value}{z:Nat→Nat}{K:Nat}(h:Uf w g gf caps z K)(ht:QB g g w w'):Uf w' g gf caps z K:=⟨h.1,fun W hW=>h.2 W (ht.trans hW)⟩
theorem Pm.bound{a b n K:Nat}{d d':Nat→Nat}(h:Pm a b d d')(hb:b≤n)(hK:∀i,i<n→d i<K):∀i,i<n→d' i<K:=by
 intro i hi;by_cases c:i<a∨b≤i
 ·rw[h.out c];exact hK i hi
 ·obtain⟨k,_,h2,h3⟩:=h.of (k:=i) ω ω;rw[h3];exact hK k ω
def Xn(w:World)(g n:Nat)(r:List Value)(z d:Nat→Nat)(a b:Nat)(e:Ending)(w':World):Prop :=
 e=ρ (.tuple #[])∧QB g g w w'∧∃d',ZP w' g n d' r∧Pm a b d d'∧SO z d' a b
theorem X0{w:World}{g n gf K:Nat}{caps:Array Value}{z d:Nat→Nat}{r:List Value}(h:ZP w g n d r)(hc:Uf w g gf caps z K)(hK:∀i,i<n→d i<K)(hz:∀x,z x≤1000000)(C a b:Nat)(hab:a≤b)(hb:b≤n)(hn:n≤1000000)(hr:∀p q,a≤p→p<q→q<b→d p<d q) :
 Calls prog 128 #[ς (some ⟨g,0,none⟩) n C,ι γ (a:Int),ι γ (b:Int),.func (.func gf) #[] caps] w (Xn w g n r z d a b):=by
 have HC:=Lib.hid hc;have HK:=Lib.hid hK;have HZ:=Lib.hid hz;have eg:=hc.1;unfold Vp at eg;obtain⟨a1,ha1⟩:=Mem.QD (a+1);have w1:IntKind.i64.wrap ((a:Int)+1)=(a1:Int):=by rw[IntKind.wrap_i64];omega
 have HD:Hid ((QB g g w w∧ZP w g n d r∧Pm a b d d)∧SO z d a a1∧∀p q,a≤p→p<q→a1≤q→q<b→d p<d q):=⟨⟨QB.refl g g w,h,Pm.refl a b d⟩,SO.one z d ω,fun p q h1 h2 _ h4=>hr p q h1 h2 h4⟩;have ha2:a<a1:=ω
 have ha3:a1≤b∨a1=a+1:=ω
 clear h hc hK hz hr;go_enter func128,ntmps128;go_wp2;clear w1
 go_loopw [8] (fun s8 wr=>∃(i:Nat)(d':Nat→Nat),(a<i∧(i≤b∨i=a+1))∧s8=ι γ (i:Int)∧Hid ((QB g g w wr∧ZP wr g n d' r∧Pm a b d d')∧SO z d' a i∧∀p q,a≤p→p<q→i≤q→q<b→d' p<d' q)) (fun s _=>b+1-(intOf s).toNat)
 case atStart=>exact⟨a1,d,⟨ha2,ha3⟩,rfl,HD⟩
 case round =>
  clear HD ha2 ha3 ha1;obtain⟨i,d',⟨hi1,hi2⟩,rfl,HD⟩:=hrel;by_cases hib:i<b
  ·have cf:(i:Int)<(b:Int):=ω
   have XA:Hid ((QB g g w wr∧ZP wr g n d' r∧Pm a b d d')∧DM z d' a b i i):=⟨HD.out.1,DM.start HD.out.2.1 HD.out.2.2 hib⟩;clear HD hi2;go_wp2
   go_loopw [9] (fun s9 wr=>∃(j:Nat)(d':Nat→Nat),(a≤j∧j≤i)∧s9=ι γ (j:Int)∧Hid ((QB g g w wr∧ZP wr g n d' r∧Pm a b d d')∧DM z d' a b i j)) (fun s _=>(intOf s).toNat)
   case atStart=>exact⟨i,d',⟨ω,Nat.le_refl _⟩,rfl,XA⟩
   case round =>
    clear XA;obtain⟨j,d',⟨TI,Tb⟩,rfl,XA⟩:=hrel;by_cases hja:a<j
    ·have mX:(a:Int)<(j:Int):=ω
     obtain⟨k,hj⟩:∃k,k+1=j:=⟨j-1,ω⟩;have HB:=XA.out.1.2.2.bound hb HK.out;obtain⟨p1,f1⟩:=XA.out.1.2.1.cell (i:=j) ω;obtain⟨p2,f2⟩:=XA.out.1.2.1.cell (i:=k) ω;have Pv:Hid (∀q,Calls prog gf (#[ι γ (d' j:Int),ι γ (d' k:Int)]++caps) (wr.drewN q) fun e W'=>e=ρ (ι γ ((z (d' k):Int)-(z (d' j):Int)))∧∃q',W'=(wr.drewN q).drewN q'):=fun q=>HC.out.2 _ (XA.out.1.1.trans (QB.drewN wr q)) _ _ (HB j ω) (HB k ω)
     obtain⟨c,hc⟩:∃c:Int,(z (d' k):Int)-(z (d' j):Int)=c:=⟨_,rfl⟩;rw[hc]at Pv;have hz1:=HZ.out (d' k);have hz2:=HZ.out (d' j);have w1:IntKind.i64.wrap ((j:Int)-1)=(k:Int):=by rw[IntKind.wrap_i64];omega
     have t1:(0:Int)≤(k:Int):=ω
     have t2:(k:Int)<(n:Int):=ω
     have t3:(0:Int)≤(j:Int):=ω
     have t4:(j:Int)<(n:Int):=ω
     have n1:j≠k:=ω
     have n2:k≠j:=ω
     by_cases hlt:c<0
     ·have HN:Hid (∀q,((QB g g w (((wr.drewN q).setCell ⟨g,j,none⟩ (ι γ (d' k:Int))).setCell ⟨g,k,none⟩ (ι γ (d' j:Int)))∧ZP (((wr.drewN q).setCell ⟨g,j,none⟩ (ι γ (d' k:Int))).setCell ⟨g,k,none⟩ (ι γ (d' j:Int))) g n (sw d' j k) r∧Pm a b d (sw d' j k)))∧DM z (sw d' j k) a b i k):=by
       intro q;refine⟨⟨(XA.out.1.1.trans (QB.drewN wr q)).trans (Um _ _ _ _ _ _),ZP.swap (W:=wr.drewN q) XA.out.1.2.1 ω ω,XA.out.1.2.2.trans (Pm.sw d' ω ω ω ω)⟩,?_⟩;have h5:=XA.out.2;have h6:z (d' k)<z (d' j):=ω
       rw[←hj]at h5 h6⊢;exact h5.step ω ω h6
      have HJ:Hid ((a≤k∧k≤i)∧k<j):=⟨⟨ω,ω⟩,ω⟩;generalize d' j=x at *;generalize d' k=y at *;clear XA HB hj hz1 hz2 hc;go_wp2
      go_quiet ((refine(Pv.out _).mono ?_;rintro e w9 ⟨he,m9,JC⟩;exact⟨he,_,by rw[JC,World.drewN_drewN]⟩))
      go_wp2
      go_region
      go_wp2
      go_roundw
      case rel=>exact⟨k,_,HJ.out.1,rfl,HN.out _⟩
      case measure=>have:=HJ.out.2;simp[intOf];omega
     ·have HN:Hid (∀q,(QB g g w (wr.drewN q)∧ZP (wr.drewN q) g n d' r∧Pm a b d d')∧SO z d' a (i+1)∧∀p q,a≤p→p<q→i+1≤q→q<b→d' p<d' q):=fun q=>⟨⟨XA.out.1.1.trans (QB.drewN wr q),XA.out.1.2.1,XA.out.1.2.2⟩,XA.out.2.stop TI Tb (.inr (by rw[show j-1=k by omega];omega)),fun p q h1 h2 h3 h4=>XA.out.2.rs p q h1 h2 h3 h4⟩
      have HJ:Hid (a<i+1∧(i+1≤b∨i+1=a+1)):=⟨ω,.inl ω⟩;generalize d' j=x at *;generalize d' k=y at *;clear XA HB hj hz1 hz2 hc;go_wp2
      go_quiet ((refine(Pv.out _).mono ?_;rintro e w9 ⟨he,m9,JC⟩;exact⟨he,_,by rw[JC,World.drewN_drewN]⟩))
      go_wp2
      go_roundw
      case rel=>exact⟨i+1,d',HJ.out,by go_num,HN.out _⟩
      case measure=>simp[intOf];omega
    ·obtain rfl:j=a:=ω
     have mX:¬(j:Int)<(j:Int):=ω
     have HN:Hid (∀q,(QB g g w (wr.drewN q)∧ZP (wr.drewN q) g n d' r∧Pm j b d d')∧SO z d' j (i+1)∧∀p q,j≤p→p<q→i+1≤q→q<b→d' p<d' q):=fun q=>⟨⟨XA.out.1.1.trans (QB.drewN wr q),XA.out.1.2.1,XA.out.1.2.2⟩,XA.out.2.stop TI Tb (.inl rfl),fun p q h1 h2 h3 h4=>XA.out.2.rs p q h1 h2 h3 h4⟩
     have HJ:Hid (j<i+1∧(i+1≤b∨i+1=j+1)):=⟨ω,.inl ω⟩;clear XA;go_wp2
     go_quiet (fail)
     go_wp2
     go_roundw
     case rel=>exact⟨i+1,d',HJ.out,by go_num,HN.out _⟩
     case measure=>simp[intOf];omega
  ·have cf:¬(i:Int)<(b:Int):=ω
   have HE:Hid (SO z d' a b):=HD.out.2.1.mono (Nat.le_refl _) ω;go_wp2
   go_end0
   exact⟨rfl,HD.out.1.1,d',HD.out.1.2.1,HD.out.1.2.2,HE.out⟩
section
variable {z d:Nat→Nat}{a b m h:Nat}
theorem Qxn{x:Nat}(lo:SO z d a b)(hb:h<b)(hh:x<z (d h)):∀k,a≤k→k<h+1→x<z (d k):=by
 intro k h1 h2;by_cases e:k=h
 ·rw[e];exact hh
 ·have:=(lo k h h1 ω hb).le;omega
theorem Qzj{x:Nat}(lo:SO z d a b)(hb:h<b)(hh:x≤z (d h)):∀k,a≤k→k<h+1→x≤z (d k):=by
 intro k h1 h2;by_cases e:k=h
 ·rw[e];exact hh
 ·have:=(lo k h h1 ω hb).le;omega
theorem pW{x:Nat}(lo:SO z d a b)(ha:a≤h)(hh:z (d h)≤x):∀k,h≤k→k<b→z (d k)≤x:=by
 intro k h1 h2;by_cases e:k=h
 ·rw[e];exact hh
 ·have:=(lo h k ha ω h2).le;omega
theorem Qwk{x:Nat}(lo:SO z d a b)(ha:a≤h)(hh:z (d h)<x):∀k,h≤k→k<b→z (d k)<x:=by
 intro k h1 h2;by_cases e:k=h
 ·rw[e];exact hh
 ·have:=(lo h k ha ω h2).le;omega
end
theorem Qkh{w:World}{g n gf K:Nat}{caps:Array Value}{z d:Nat→Nat}{r:List Value}(h:ZP w g n d r)(hc:Uf w g gf caps z K)(hK:∀i,i<n→d i<K)(hz:∀x,z x≤1000000)(C a m b:Nat)(hm:a+1=m)(hmb:m<b)(hb:b≤n)(hn:n≤1000000)(kF:SO z d m b)(hx:XX z d a m b) :
 Calls Tryz.prog 129 #[ς (some ⟨g,0,none⟩) n C,ι γ (a:Int),ι γ (m:Int),ι γ (b:Int),.func (.func gf) #[] caps] w (Xn w g n r z d a b):=by
 have HC:=Lib.hid hc;have HK:=Lib.hid hK;have HZ:=Lib.hid hz;have qJ:=Lib.hid kF;have HX:=Lib.hid hx;have eg:=hc.1;unfold Vp at eg;have HM:=Lib.hid hm;have w1:IntKind.i64.wrap ((m:Int)-(a:Int))=1:=by rw[IntKind.wrap_i64];omega
 have HD:Hid ((QB g g w w∧ZP w g n d r)∧(∀k,m≤k→k<m→z (d a)<z (d k))∧∀k,b≤k→k<b→z (d k)≤z (d a)):=⟨⟨QB.refl g g w,h⟩,fun k h1 h2=>ω,fun k h1 h2=>ω⟩;have vg:a<m:=ω
 clear h hc hK hz kF hx hm;go_enter Tryz.func129,Tryz.ntmps129;go_wp2;clear w1
 go_loopw [10,11] (fun JQ GA wr=>∃i j:Nat,(m≤i∧i≤j∧j≤b)∧JQ=ι γ (i:Int)∧GA=ι γ (j:Int)∧Hid ((QB g g w wr∧ZP wr g n d r)∧(∀k,m≤k→k<i→z (d a)<z (d k))∧∀k,j≤k→k<b→z (d k)≤z (d a))) (fun s t _=>(intOf t).toNat-(intOf s).toNat)
 case atStart=>exact⟨m,b,⟨Nat.le_refl _,ω,Nat.le_refl _⟩,rfl,rfl,HD⟩
 case round =>
  clear HD;obtain⟨i,j,⟨hi1,hi2,PL⟩,rfl,rfl,HD⟩:=hrel;by_cases hij:i<j
  ·have Di:(i:Int)<(j:Int):=ω
   obtain⟨s,hs⟩:=Mem.QD (i+j);obtain⟨q,hq⟩:=Mem.QD (s/2);have w1:IntKind.i64.wrap ((i:Int)+(j:Int))=(s:Int):=by rw[IntKind.wrap_i64];omega
   have w2:IntKind.u64.wrap (s:Int)=(s:Int):=by rw[IntKind.wrap_u64];omega
   have w3:(s:Int)/2=(q:Int):=ω
   have w4:IntKind.u64.wrap (q:Int)=(q:Int):=by rw[IntKind.wrap_u64];omega
   have w5:IntKind.i64.wrap (q:Int)=(q:Int):=by rw[IntKind.wrap_i64];omega
   obtain⟨p1,f1⟩:=HD.out.1.2.cell (i:=q) ω;obtain⟨p2,f2⟩:=HD.out.1.2.cell (i:=a) ω;have Pv:Hid (∀q',Calls Tryz.prog gf (#[ι γ (d q:Int),ι γ (d a:Int)]++caps) (wr.drewN q') fun e W'=>e=ρ (ι γ ((z (d a):Int)-(z (d q):Int)))∧∃q'',W'=(wr.drewN q').drewN q''):=fun q'=>HC.out.2 _ (HD.out.1.1.trans (QB.drewN wr q')) _ _ (HK.out q ω) (HK.out a ω)
   obtain⟨c,hc⟩:∃c:Int,(z (d a):Int)-(z (d q):Int)=c:=⟨_,rfl⟩;rw[hc]at Pv;have hz1:=HZ.out (d a);have hz2:=HZ.out (d q);have t1:(0:Int)≤(q:Int):=ω
   have t2:(q:Int)<(n:Int):=ω
   have t3:(0:Int)≤(a:Int):=ω
   have t4:(a:Int)<(n:Int):=ω
   have HQ:Hid (i≤q∧q<j):=⟨ω,ω⟩;by_cases hlt:c<0
   ·have HN:Hid (∀q',(QB g g w (wr.drewN q')∧ZP (wr.drewN q') g n d r)∧(∀k,m≤k→k<q+1→z (d a)<z (d k))∧∀k,j≤k→k<b→z (d k)≤z (d a)):=fun q'=>⟨⟨HD.out.1.1.trans (QB.drewN wr q'),HD.out.1.2⟩,Qxn qJ.out ω ω,HD.out.2.2⟩
    generalize d q=x at *;generalize d a=y at *;clear HD hs hq hz1 hz2 hc hij;go_wp2
    go_quiet ((refine(Pv.out _).mono ?_;rintro e w9 ⟨he,m9,JC⟩;exact⟨he,_,by rw[JC,World.drewN_drewN]⟩))
    go_wp2
    go_roundw
    case rel=>exact c71
    case measure=>have:=HQ.out;simp[intOf];omega
   ·have HN:Hid (∀q',(QB g g w (wr.drewN q')∧ZP (wr.drewN q') g n d r)∧(∀k,m≤k→k<i→z (d a)<z (d k))∧∀k,q≤k→k<b→z (d k)≤z (d a)):=fun q'=>⟨⟨HD.out.1.1.trans (QB.drewN wr q'),HD.out.1.2⟩,HD.out.2.1,pW qJ.out ω ω⟩
    generalize d q=x at *;generalize d a=y at *;clear HD hs hq hz1 hz2 hc hij;go_wp2
    go_quiet ((refine(Pv.out _).mono ?_;rintro e w9 ⟨he,m9,JC⟩;exact⟨he,_,by rw[JC,World.drewN_drewN]⟩))
    go_wp2
    go_roundw
    case rel=>exact c79
    case measure=>have:=HQ.out;simp[intOf];omega
  ·obtain rfl:j=i:=ω
   have Di:¬(j:Int)<(j:Int):=ω
   obtain⟨i1,cg⟩:∃i1,j-1=i1:=⟨_,rfl⟩;have w1:IntKind.i64.wrap ((j:Int)-1)=(i1:Int):=by rw[IntKind.wrap_i64];omega
   have HS:Hid (SO z (Qx d a m j) a b∧Pm a b d (Qx d a m j)):=by have h1:=HM.out;subst h1;exact⟨Qot qJ.out HX.out hi1 PL HD.out.2.1 HD.out.2.2,(pN d ω hi1).mono (Nat.le_refl _) PL⟩
   have Bh:Hid (QB g g w wr∧ZP wr g n (Qx d a m (a+1)) r):=⟨HD.out.1.1,by rw[HM.out,il d (.inr rfl)];exact HD.out.1.2⟩;have hj:i1+1=j:=ω
   have HJ:=Lib.hid hj;have ha1:a≤i1:=ω
   have hjn:i1+1≤n:=ω
   clear HD cg;go_wp2
   go_loopw [13] (fun EU wr=>∃k:Nat,(a≤k∧k≤i1)∧EU=ι γ (k:Int)∧Hid (QB g g w wr∧ZP wr g n (Qx d a m (k+1)) r)) (fun s _=>i1-(intOf s).toNat)
   case atStart=>exact⟨a,⟨Nat.le_refl _,ha1⟩,rfl,Bh⟩
   case round =>
    clear Bh;obtain⟨k,⟨hk1,hk2⟩,rfl,HD⟩:=hrel;by_cases zU:k<i1
    ·have Ww:(k:Int)<(i1:Int):=ω
     obtain⟨k',hk'⟩:∃k',k+1=k':=⟨_,rfl⟩;obtain⟨p1,f1⟩:=HD.out.2.cell (i:=k) ω;obtain⟨p2,f2⟩:=HD.out.2.cell (i:=k') ω;have HN:Hid (∀q2,QB g g w (((wr.setCell ⟨g,k,none⟩ (ι γ (Qx d a m (k+1) k':Int))).setCell ⟨g,k',none⟩ (ι γ (Qx d a m (k+1) k:Int))).drewN q2)∧ZP (((wr.setCell ⟨g,k,none⟩ (ι γ (Qx d a m (k+1) k':Int))).setCell ⟨g,k',none⟩ (ι γ (Qx d a m (k+1) k:Int))).drewN q2) g n (Qx d a m (k'+1)) r):=by intro q2;refine⟨(HD.out.1.trans (Um _ _ _ _ _ _)).trans (QB.drewN _ q2),?_⟩;have h1:=HM.out;subst h1;rw[←hk',show k+1+1=k+2 from rfl,Qus d hk1];exact HD.out.2.swap (W:=wr) ω ω
     have w2:IntKind.i64.wrap ((k:Int)+1)=(k':Int):=by rw[IntKind.wrap_i64];omega
     have t1:(0:Int)≤(k:Int):=ω
     have t2:(k:Int)<(n:Int):=ω
     have t3:(0:Int)≤(k':Int):=ω
     have t4:(k':Int)<(n:Int):=ω
     have KA:Hid ((a≤k'∧k'≤i1)∧k<k'):=⟨⟨ω,ω⟩,ω⟩;generalize Qx d a m (k+1) k=x at *;generalize Qx d a m (k+1) k'=y at *;have n1:k≠k':=ω
     have n2:k'≠k:=ω
     clear HD hk';go_wp2
     go_region
     go_wp2
     go_roundw
     case rel=>exact⟨k',KA.out.1,rfl,HN.out _⟩
     case measure=>have:=KA.out;simp[intOf];omega
    ·obtain rfl:k=i1:=ω
     have Ww:¬(k:Int)<(k:Int):=ω
     go_wp2
     go_end0
     exact⟨rfl,HD.out.1,Qx d a m j,by have:=HD.out.2;rw[HJ.out]at this;exact this,HS.out.2,HS.out.1⟩
def bQ:F→Prop
 | .nil=>True
 | .cons k x y c r=>(-9223372036854775808≤k∧k≤9223372036854775807)∧bQ c∧bQ r
def pA(k:Int)(x y:ByteArray)(c:F):Prop:=x.size≤1000000∧y.size≤1000000∧Zp c∧bQ (one k x y c)
def SN(n:Nat):List P2:=(List.range n).map fun(i:Nat)=>((i:Int),(i:Int))
def Zy(T:F):List Int:=kinds (nodes T)
structure vJ(XF:World→Prop)(Rt:Int→ByteArray→ByteArray→F→Prop)(mt:F→F→List P2):Prop where
 keep:∀w w',XF w→Below w.heap.size w w'→XF w'
 of_:∀(k:Int)(x y:ByteArray)(A:Option Addr)(n C:Nat)(c:F)(k':Int)(x' y':ByteArray)(A':Option Addr)(n' C':Nat)(c':F)(w:World),XF w→Fs w (Lo w.heap.size) (ς A n C) c→Fs w (Lo w.heap.size) (ς A' n' C') c'→
  c.size≤20010→c'.size≤20010→pA k x y c→pA k' x' y' c'→
  Calls Tryz.prog 12 #[ξ #[ι γ k,σ x,σ y,ς A n C],ξ #[ι γ k',σ x',σ y',ς A' n' C']] w fun e w'=>Below w.heap.size w w'∧
   ∃v,e=ρ (.tuple #[v,ι γ (if 20000≤c.size∨20000≤c'.size then 2 else 0)])∧Qm w' (In w.heap.size w'.heap.size) v (mt (one k x y c) (one k' x' y' c'))
 tH:∀(k:Int)(x y:ByteArray)(A:Option Addr)(n C:Nat)(c:F)(k':Int)(x' y':ByteArray)(A':Option Addr)(n' C':Nat)(c':F)(Al:Option Addr)(Cl:Nat)(L:List P2)(w:World),XF w→Fs w (Lo w.heap.size) (ς A n C) c→Fs w (Lo w.heap.size) (ς A' n' C') c'→
  Qm w (Lo w.heap.size) (ς Al L.length Cl) L→c.size≤20010→c'.size≤20010→L.length≤100000→pA k x y c→pA k' x' y' c'→
  Calls Tryz.prog 21 #[ξ #[ι γ k,σ x,σ y,ς A n C],ξ #[ι γ k',σ x',σ y',ς A' n' C'],ς Al L.length Cl] w fun e w'=>e=ρ (τ (Z9 (Zy (one k x y c)) (Zy (one k' x' y' c')) L))∧Below w.heap.size w w'
 long:∀(k:Int)(x y:ByteArray)(c:F)(k':Int)(x' y':ByteArray)(c':F),20000≤c.size∨20000≤c'.size→mt (one k x y c) (one k' x' y' c')=[]
 tv:∀(k:Int)(x y:ByteArray)(c:F)(k':Int)(x' y':ByteArray)(c':F),k≠k'→mt (one k x y c) (one k' x' y' c')=[]
 is_:∀(k:Int)(x y:ByteArray)(c:F)(x' y':ByteArray)(c':F),c.size<20000→c'.size<20000→Z9 (Zy (one k x y c)) (Zy (one k x' y' c')) (mt (one k x y c) (one k x' y' c'))=true
 self:∀(k:Int)(x y:ByteArray)(c:F),c.size<20000→mt (one k x y c) (one k x y c)=SN (c.size+1)
 Q3g:∀(k:Int)(x y:ByteArray)(c:F)(x' y':ByteArray)(c':F),c.size<20000→c'.size<20000→Rt k x y c→Rt k x' y' c'→∀p∈Qwx c c',p∈mt (one k x y c) (one k x' y' c')∧
  ∀nd,(nodes (one k x y c))[p.1.toNat]?=some nd→(nodes (one k x' y' c'))[p.2.toNat]?=some nd→∀j:Nat,j<nd.c.size+1→(p.1+(j:Int),p.2+(j:Int))∈mt (one k x y c) (one k x' y' c')
theorem J6(w:World)(k:Int)(x y:ByteArray)(s:Value):∀W,Below (w.alloc (θ #[ι γ k,σ x,σ y,s] 24)).heap.size (w.alloc (θ #[ι γ k,σ x,σ y,s] 24)) W→
 W.cell? ⟨w.heap.size,0,none⟩=some (ι γ k)∧W.cell? ⟨w.heap.size,1,none⟩=some (σ x)∧W.cell? ⟨w.heap.size,2,none⟩=some (σ y)∧W.cell? ⟨w.heap.size,3,none⟩=some s:=fun W hW=>by
 have h:W.heap[w.heap.size]?=_:=(hW.block w.heap.size ψ).trans (heap_alloc_new w _);refine⟨?_,?_,?_,?_⟩ <;> simp[World.cell?,h]
def vq(k:Int)(x y:ByteArray)(c:F):Bool:=OB k x y c&&decide (c.size+1≤400)
theorem Qly{k:Int}{x y:ByteArray}{c:F}(h:vq k x y c=true):c.size+1≤400∧x.size≤1000000∧y.size≤1000000∧Zp c:=by
 unfold vq at h;rw[Bool.and_eq_true,decide_eq_true_eq]at h;have hi:=Qy3 h.1;exact⟨h.2,by have:=hi.hx;omega,by have:=hi.hy;omega,hi.sm⟩
theorem Qph(k:Int)(x y:ByteArray)(A:Option Addr)(n C:Nat)(c:F)(w:World)(hf:Fs w (Lo w.heap.size) (ς A n C) c) :
 Calls Tryz.prog 10 #[ξ #[ι γ k,σ x,σ y,ς A n C]] w fun e w'=>e=ρ (τ (vq k x y c))∧Below w.heap.size w w':=by
 have b1:=Qz w (θ #[ι γ k,σ x,σ y,ς A n C] 24);have HF:=Lib.hid (Qwh k x y A n C c _ (hf.later b1));have Z':=Lib.hid b1;have hq:=J6 w k x y (ς A n C)
 have HS:Hid (∀W,Below (w.alloc (θ #[ι γ k,σ x,σ y,ς A n C] 24)).heap.size (w.alloc (θ #[ι γ k,σ x,σ y,ς A n C] 24)) W→Calls Tryz.prog 16 #[ξ #[ι γ k,σ x,σ y,ς A n C],ι γ 401] W fun e w'=>e = ρ (ι γ ((min (c.size+1) 401:Nat):Int))∧Below W.heap.size W w'):=fun W hW =>
  Qbr k x y A n C c 401 W ((hf.later b1).later hW) ω ω
 have HV:Hid (vq k x y c=(OB k x y c&&decide (((min (c.size+1) 401:Nat):Int)≤400))):=by
  show _=_;unfold vq
  congr 1
  rw[decide_eq_decide];omega
 obtain⟨q0,q1,q2,q3⟩:=hq _ (Below.refl _ _);have HQ:=Lib.hid hq;generalize OB k x y c=fb at *;generalize min (c.size+1) 401=sz at *;clear hf b1 hq;go_enter Tryz.func10,Tryz.ntmps10;go_wp2_with fail;refine c₁ HF.out fun w1 hb=>?_;have XC:=VO Z' hb;have SA:=Lib.hid (HS.out w1 hb);obtain⟨p0,p1,p2,p3⟩:=HQ.out w1 hb;clear hb q0 q1 q2 q3 HF HS HQ;cases fb with
 |false=>go_wp2;go_ret;exact⟨by rw[HV.out];rfl,XC.out⟩
 |true=>go_wp2_with fail;refine c₁ SA.out fun w2 hb=>?_;have VG:=VO XC hb;clear hb p0 p1 p2 p3 SA;go_wp2;go_ret;exact⟨by rw[HV.out];rfl,VG.out⟩
end Match
namespace Shape
open Tree
def upto:Nat→F→F
 |0,_=>.nil
 |_+1,.nil=>.nil
 |j+1,.cons k x y c r=>.cons k x y c (upto j r)
theorem Qqj:∀j,upto j .nil=.nil
 |0=>rfl
 |_+1=>rfl
theorem Ga:∀(j:Nat)(f:F),f.len≤j→upto j f=f
 |j,.nil,_=>Qqj j
 |0,.cons _ _ _ _ r,h=>by simp[F.len]at h
 |j+1,.cons k x y c r,h=>by
  simp only[upto];rw[Ga j r (by simp only[F.len]at h;omega)]
theorem K4:∀(j:Nat)(f:F)(k:Int)(x y:ByteArray)(c r:F),f.drop j=.cons k x y c r→
 nodes (upto (j+1) f)=nodes (upto j f)++nodes (one k x y c)∧Zt (upto (j+1) f)=Zt (upto j f)++Zt (one k x y c)∧(upto (j+1) f).size=(upto j f).size+(c.size+1)∧
 (∀a,places a (upto (j+1) f)=places a (upto j f)++[a+(upto j f).size])∧(∀p a,Jn p a (upto (j+1) f)=Jn p a (upto j f)++Jn p (a+(upto j f).size) (one k x y c))∧
 (∀a,Z7 a (upto (j+1) f)=Z7 a (upto j f)++Z7 (a+(upto j f).size) (one k x y c))
 |j,.nil,k,x,y,c,r,h=>by rw[F.drop_nil]at h;cases h
 |0,.cons k' x' y' c' r',k,x,y,c,r,h=>by
  simp only[F.drop,F.cons.injEq]at h;obtain⟨rfl,rfl,rfl,rfl,rfl⟩:=h;refine⟨?_,?_,?_,fun a=>?_,fun p a=>?_,fun a=>?_⟩;all_goals simp[upto,nodes,Zt,F.size,places,Jn,Z7,one]
 |j+1,.cons k' x' y' c' r',k,x,y,c,r,h=>by
  obtain⟨h1,h2,h3,h4,h5,h6⟩:=K4 j r' k x y c r h;refine⟨?_,?_,?_,fun a=>?_,fun p a=>?_,fun a=>?_⟩
  ·simp only[upto,nodes,List.cons_append,JZ]at h1⊢;rw[h1]
  ·simp only[upto,Zt,List.cons_append,JZ]at h2⊢;rw[h2]
  ·simp only[upto,F.size]at h3⊢;omega
  ·have:=h4 (a+1+c'.size);simp only[upto,places,List.cons_append,F.size]at this⊢;rw[this];simp only[List.cons.injEq,List.append_cancel_left_eq,true_and];exact⟨ω,trivial⟩
  ·have:=h5 p (a+1+c'.size);simp only[upto,Jn,List.cons_append,JZ,F.size]at this⊢;rw[this,show a+1+c'.size+(upto j r').size=a+(c'.size+(upto j r').size+1)by omega]
  ·have:=h6 (a+1+c'.size);simp only[upto,Z7,List.cons_append,JZ,F.size]at this⊢;rw[this,show a+1+c'.size+(upto j r').size=a+(c'.size+(upto j r').size+1)by omega]
theorem Yr:∀(j:Nat)(f:F)(a:Nat),places a (upto j f)=(places a f).take j
 |0,f,a=>by simp[upto,places]
 |j+1,.nil,a=>by simp[upto,places]
 |j+1,.cons k x y c r,a=>by
  simp only[upto,places,List.take_succ_cons];rw[Yr j r]
theorem Uh:∀(j:Nat)(f:F),(upto j f).size≤f.size
 |0,f=>Nat.zero_le _
 |_+1,.nil=>Nat.le_refl _
 |j+1,.cons k x y c r=>by have:=Uh j r;simp only[upto,F.size];omega
def dn:Nat→F→F
 |0,f=>f
 |_+1,.nil=>.nil
 |d+1,.cons _ _ _ c _=>dn d c
theorem Qy5:∀d,dn d .nil=.nil
 |0=>rfl
 |_+1=>rfl
theorem X1:∀(d:Nat)(f:F)(k:Int)(x y:ByteArray)(c r:F),dn d f=.cons k x y c r→dn (d+1) f=c
 |0,f,k,x,y,c,r,h=>by
  simp only[dn]at h;subst h;rfl
 |d+1,.nil,k,x,y,c,r,h=>by cases h
 |d+1,.cons _ _ _ c' _,k,x,y,c,r,h=>X1 d c' k x y c r h
def Bj:Nat→F→List Nd
 |0,_=>[]
 |_+1,.nil=>[]
 |d+1,.cons k x y c _=>⟨k,x,y,c⟩::Bj d c
theorem Yx:∀(d:Nat)(f:F)(k:Int)(x y:ByteArray)(c r:F),dn d f=.cons k x y c r→Bj (d+1) f=Bj d f++[⟨k,x,y,c⟩]∧(Bj d f).length=d
 |0,f,k,x,y,c,r,h=>by
  simp only[dn]at h;subst h;exact⟨rfl,rfl⟩
 |d+1,.nil,k,x,y,c,r,h=>by cases h
 |d+1,.cons k' x' y' c' r',k,x,y,c,r,h=>by
  obtain⟨h1,h2⟩:=Yx d c' k x y c r h;refine⟨?_,by simp[Bj,h2]⟩;rw[show Bj (d+1+1) (.cons k' x' y' c' r')=⟨k',x',y',c'⟩::Bj (d+1) c' from rfl,h1];rfl
theorem pV:∀(d:Nat)(f:F),(dn d f).size+d≤f.size∨dn d f=.nil
 |0,f=>.inl (Nat.le_refl _)
 |d+1,.nil=>.inr rfl
 |d+1,.cons k x y c r=>by
  rcases pV d c with h|h
  ·exact .inl (by simp only[dn,F.size];omega)
  ·exact .inr h
def pl(p:Int)(a:Nat)(d:Nat):Int:=if d=0 then p else(a:Int)+d-1
def tN(d j:Nat)(f:F):List Nd:=Bj d f++nodes (upto j (dn d f))
def tP(p:Int)(a d j:Nat)(f:F):List Int:=(List.range d).map (pl p a)++Jn (pl p a d) (a+d) (upto j (dn d f))
def tS(d j:Nat)(f:F):List Int:=List.replicate d 0++Zt (upto j (dn d f))
def tK(a d j:Nat)(f:F):List (List Nat):=List.replicate d []++Z7 (a+d) (upto j (dn d f))
def Py(a d j m:Nat)(f:F):List (List Nat):=List.replicate d []++(places (a+d+1) (dn (d+1) f)).take m::Z7 (a+d+1) (upto j (dn (d+1) f))
section
variable {p:Int}{a d j m:Nat}{f:F}{k:Int}{x y:ByteArray}{c r:F}
theorem Qzn:tN 0 1 (one k x y c)=nodes (one k x y c)∧tP p a 0 1 (one k x y c)=Jn p a (one k x y c)∧tS 0 1 (one k x y c)=Zt (one k x y c)∧tK a 0 1 (one k x y c)=Z7 a (one k x y c):=by
 refine⟨?_,?_,?_,?_⟩ <;> simp[tN,tP,tS,tK,Bj,dn,one,upto,pl]
theorem Qzl:tN 1 0 (one k x y c)=[⟨k,x,y,c⟩]∧tP p a 1 0 (one k x y c)=[p]∧tS 1 0 (one k x y c)=[0]∧tK a 1 0 (one k x y c)=[[]]:=by
 refine⟨?_,?_,?_,?_⟩ <;> simp[tN,tP,tS,tK,Bj,one,upto,pl,nodes,Jn,Zt,Z7]
theorem Qxp(h:dn d f=.cons k x y c r):tN d 0 f++[⟨k,x,y,c⟩]=tN (d+1) 0 f∧tP p a d 0 f++[pl p a d]=tP p a (d+1) 0 f∧tS d 0 f++[0]=tS (d+1) 0 f∧tK a d 0 f++[[]]=tK a (d+1) 0 f:=by
 refine⟨?_,?_,?_,?_⟩
 ·simp only[tN,upto,nodes,He];exact(Yx d f k x y c r h).1.symm
 ·simp only[tP,upto,Jn,He,List.range_succ,List.map_append];rfl
 ·simp only[tS,upto,Zt,He];exact List.replicate_succ'.symm
 ·simp only[tK,upto,Z7,He];exact List.replicate_succ'.symm
theorem Qqs(h:dn d f=.nil):tN d 0 f=tN d 1 f∧tP p a d 0 f=tP p a d 1 f∧tS d 0 f=tS d 1 f∧tK a d 0 f=tK a d 1 f:=by
 refine⟨?_,?_,?_,?_⟩ <;> simp[tN,tP,tS,tK,h,upto]
theorem Cm(h:dn d f=.cons k x y c r)(j:Nat):(tN (d+1) j f).length=d+1+(upto j c).size∧(tP p a (d+1) j f).length=d+1+(upto j c).size∧(tS (d+1) j f).length=d+1+(upto j c).size∧∀m,(Py a d j m f).length=d+1+(upto j c).size:=by
 have e:=X1 d f k x y c r h;have h1:=(Yx d f k x y c r h);refine⟨?_,?_,?_,fun m=>?_⟩
 ·simp only[tN,ZU,Qj,h1.1,h1.2,e,List.length_cons,List.length_nil]
 ·simp only[tP,ZU,List.length_map,List.length_range,Y1,e]
 ·simp only[tS,ZU,List.length_replicate,E6,e]
 ·simp only[Py,ZU,List.length_replicate,List.length_cons,Vh,e];omega
theorem Qz8(h:dn d f=.cons k x y c r)(j:Nat)(L0:List Nd):(L0++tN (d+1) j f)[L0.length+d]?=some ⟨k,x,y,c⟩:=by
 obtain⟨h1,h2⟩:=Yx d f k x y c r h;rw[GK ω,Nat.add_sub_cancel_left];simp only[tN,h1,JZ];rw[GK ω,h2,Nat.sub_self];rfl
theorem Qqt(j m:Nat)(h:dn d f=.cons k x y c r)(k0:List (List Nat))(hk:k0.length=a):(k0++Py a d j m f)[a+d]?=some ((places (a+d+1) c).take m):=by
 subst hk;rw[GK ω,Nat.add_sub_cancel_left];simp only[Py];rw[GK ψ,List.length_replicate,Nat.sub_self,X1 d f k x y c r h];rfl
theorem Qmm{q:Nat}(j m:Nat)(h:dn d f=.cons k x y c r)(k0:List (List Nat))(hk:k0.length=a)(hq:(places (a+d+1) c)[m]?=some q):(k0++Py a d j m f).set (a+d) ((places (a+d+1) c).take m++[q])=k0++Py a d j (m+1) f:=by
 subst hk;rw[List.set_append_right _ _ ω,Nat.add_sub_cancel_left];simp only[Py];rw[List.set_append_right _ _ ψ,List.length_replicate,Nat.sub_self,X1 d f k x y c r h,List.take_add_one,hq];rfl
theorem Qqu:tK a (d+1) 1 f=Py a d 1 0 f:=by
 simp only[tK,Py,List.take_zero,List.replicate_succ',JZ,Nat.add_assoc];rfl
theorem Qfg{j:Nat}(b:Nat)(h:c.drop j=.cons k x y f r):(places b c)[j]?=some (b+(upto j c).size):=by
 have h1:=(K4 j c k x y f r h).2.2.2.1 b;rw[Yr,Yr]at h1;rw[List.take_add_one]at h1;have h2:=List.append_cancel_left h1;cases hp:(places b c)[j]? with
 |none=>rw[hp]at h2;cases h2
 |some q=>rw[hp]at h2;injection h2 with h2 _;rw[h2]
theorem Qzm{k':Int}{x' y':ByteArray}{c' r':F}(hd:dn d f=.cons k x y c r)(h:c.drop j=.cons k' x' y' c' r')(m:Nat):tN (d+1) (j+1) f=tN (d+1) j f++nodes (one k' x' y' c')∧tP p a (d+1) (j+1) f=tP p a (d+1) j f++Jn ((a+d:Nat):Int) (a+(d+1+(upto j c).size)) (one k' x' y' c')∧
 tS (d+1) (j+1) f=tS (d+1) j f++Zt (one k' x' y' c')∧Py a d (j+1) m f=Py a d j m f++Z7 (a+(d+1+(upto j c).size)) (one k' x' y' c'):=by
 have e:=X1 d f k x y c r hd;obtain⟨h1,h2,h3,h4,h5,h6⟩:=K4 j _ k' x' y' c' r' h;refine⟨?_,?_,?_,?_⟩
 ·simp only[tN,e,h1,JZ]
 ·simp only[tP,e,h5,JZ]
  congr 3
  ·unfold pl;rw[if_neg ω];omega
  ·omega
 ·simp only[tS,e,h2,JZ]
 ·simp only[Py,e,h6,JZ,List.cons_append];rw[show a+d+1+(upto j c).size=a+(d+1+(upto j c).size)by omega]
theorem Qz7{z0:List Int}{k0:List (List Nat)}(hd:dn d f=.cons k x y c r)(j m:Nat)(hj:c.len≤j)(hm:c.len≤m):tN (d+1) j f=tN d 1 f∧tP p a (d+1) j f=tP p a d 1 f∧(z0++tS (d+1) j f).set (z0.length+d) (((c.size+1:Nat):Int))=z0++tS d 1 f∧Py a d j m f=tK a d 1 f:=by
 have e:=X1 d f k x y c r hd;obtain⟨h1,h2⟩:=Yx d f k x y c r hd;refine⟨?_,?_,?_,?_⟩
 ·simp only[tN,h1,e,hd,Ga j c hj,upto,nodes,He,JZ];rfl
 ·simp only[tP,e,hd,Ga j c hj,upto,Jn,He,List.range_succ,List.map_append,JZ]
  congr 1
  show pl p a d::Jn (pl p a (d+1)) (a+(d+1)) c=_
  congr 2
  unfold pl;rw[if_neg ω];omega
 ·rw[List.set_append_right _ _ ω,Nat.add_sub_cancel_left];simp only[tS,e,hd,Ga j c hj,upto,Zt,He,List.replicate_succ',JZ];rw[List.set_append_right _ _ ψ,List.length_replicate,Nat.sub_self];rfl
 ·simp only[Py,tK,e,hd,Ga j c hj,upto,Z7,He];rw[List.take_of_length_le (by rw[Jc];exact hm)]
end
theorem Qnh:∀(d:Nat)(f:F)(i:Nat),i≤d→dn d f≠.nil→dn i f≠.nil
 |0,f,i,hi,h=>by rw[Nat.le_zero.1 hi];exact h
 |d+1,.nil,i,hi,h=>absurd (Qy5 _) h
 |d+1,.cons k x y c r,0,_,_=>by simp[dn]
 |d+1,.cons k x y c r,i+1,hi,h=>Qnh d c i ω h
theorem Qwl{d:Nat}{f:F}(h:dn d f≠.nil):∃k x y c r,dn d f=.cons k x y c r:=by
 cases hf:dn d f with
 |nil=>exact absurd hf h
 |cons k x y c r=>exact⟨k,x,y,c,r,rfl⟩
