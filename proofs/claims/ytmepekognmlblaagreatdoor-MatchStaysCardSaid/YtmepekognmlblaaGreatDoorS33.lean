import Derived.Test.YtmepekognmlblaaGreatDoorS26
set_option maxHeartbeats 16000000
set_option maxRecDepth 100000
set_option linter.unusedVariables false
open Go.ChangeShapes Go.WideShapes Go.ChangeAt Go.RowKit
open _root_.Nat renaming le_refl→QI,zero_add→ZL,lt_of_lt_of_le→VE,le_trans→QW,zero_le→ZR
open _root_.List renaming mem_cons_self→XG,mem_cons_of_mem→UN,setIfInBounds_toArray→ZC,set_cons_succ→ZA,set_cons_zero→QZ,getElem?_eq_getElem→QN,mem_of_getElem?→JK,getElem?_map→VP,length_map→VD
open Go.Lib renaming hid→QA
open Go.RowKit.Below renaming refl→QE
open Go.Value renaming string→σ,int→ι,slice→ς,pointer→π,agg→ξ
open Go.IntKind renaming i64→γ
open Go.Obj renaming cells→θ
open Go.Ending renaming returned→ρ
namespace Go.Proofs.YtmepekognmlblaaGreatDoor
namespace Match
open Tree Shape
def ah(z:Nat→Nat)(x y:Nat):Prop:=z y<z x∨(z x=z y∧x<y)
theorem ah.trans{z:Nat→Nat}{x y u:Nat}(h:ah z x y)(h':ah z y u):ah z x u:=by unfold ah at *;omega
theorem ah.le{z:Nat→Nat}{x y:Nat}(h:ah z x y):z y≤z x:=by unfold ah at *;omega
theorem ah.ne{z:Nat→Nat}{x y:Nat}(h:ah z x y)(e:z x=z y):x<y:=by unfold ah at *;omega
theorem ah.of{z:Nat→Nat}{x y:Nat}(h:z y≤z x)(h':z x=z y→x<y):ah z x y:=by unfold ah;omega
def sw(d:Nat→Nat)(i j:Nat):Nat→Nat:=fun k=>if k=j then d i else if k=i then d j else d k
def SO(z d:Nat→Nat)(a b:Nat):Prop:=∀i j,a≤i→i<j→j<b→ah z (d i) (d j)
def Pm(a b:Nat)(d d':Nat→Nat):Prop:=∃p q:Nat→Nat,(∀k,q (p k)=k)∧(∀k,p (q k)=k)∧(∀k,(k<a∨b≤k)→p k=k)∧∀k,d' k=d (p k)
section
variable {z d d' d'':Nat→Nat}{a b m:Nat}
theorem SO.mono(h:SO z d a b){a' b':Nat}(h1:a≤a')(h2:b'≤b):SO z d a' b':=fun i j hi hj hb=>h i j ω hj ω
theorem SO.congr(h:SO z d a b)(he:∀k,a≤k→k<b→d' k=d k):SO z d' a b:=fun i j hi hj hb=>by
 rw[he i hi ω,he j ω hb];exact h i j hi hj hb
theorem SO.one(z d:Nat→Nat){a b:Nat}(h:b≤a+1):SO z d a b:=fun i j hi hj hb=>ω
theorem Pm.refl(a b:Nat)(d:Nat→Nat):Pm a b d d:=⟨id,id,fun _=>rfl,fun _=>rfl,fun _ _=>rfl,fun _=>rfl⟩
theorem Pm.trans(h:Pm a b d d')(h':Pm a b d' d''):Pm a b d d'':=by
 obtain⟨p,q,h1,h2,h3,h4⟩:=h;obtain⟨p',q',g1,g2,g3,g4⟩:=h';exact⟨fun k=>p (p' k),fun k=>q' (q k),fun k=>by simp only;rw[h1,g1],fun k=>by simp only;rw[g2,h2],fun k hk=>by simp only;rw[g3 k hk,h3 k hk],fun k=>by simp only;rw[g4,h4]⟩
theorem Pm.mono(h:Pm a b d d'){a' b':Nat}(h1:a'≤a)(h2:b≤b'):Pm a' b' d d':=by
 obtain⟨p,q,g1,g2,g3,g4⟩:=h;exact⟨p,q,g1,g2,fun k hk=>g3 k ω,g4⟩
theorem Pm.out(h:Pm a b d d'){k:Nat}(hk:k<a∨b≤k):d' k=d k:=by
 obtain⟨p,q,g1,g2,g3,g4⟩:=h;rw[g4,g3 k hk]
theorem Pm.of(h:Pm a b d d'){k:Nat}(h1:a≤k)(h2:k<b):∃k',a≤k'∧k'<b∧d' k=d k':=by
 obtain⟨p,q,g1,g2,g3,g4⟩:=h
 have:¬(p k<a∨b≤p k):=fun hp=>by
  have h5:=g3 _ hp;have h6:=congrArg q h5;rw[g1,g1]at h6;omega
 exact⟨p k,ω,ω,g4 k⟩
theorem Pm.symm(h:Pm a b d d'):Pm a b d' d:=by
 obtain⟨p,q,g1,g2,g3,g4⟩:=h
 exact⟨q,p,g2,g1,fun k hk=>by
  have:=congrArg q (g3 k hk);rw[g1]at this;exact this.symm,fun k=>by rw[g4,g2]⟩
theorem Pm.sw(d:Nat→Nat){i j:Nat}(h1:a≤i)(h2:i<b)(h3:a≤j)(h4:j<b):Pm a b d (sw d i j):=by
 refine⟨fun k=>if k=j then i else if k=i then j else k,fun k=>if k=j then i else if k=i then j else k,fun k=>?_,fun k=>?_,fun k hk=>?_,fun k=>?_⟩
 ·simp only;split <;> split <;> (try split) <;> (try split) <;> omega
 ·simp only;split <;> split <;> (try split) <;> (try split) <;> omega
 ·simp only;rw[if_neg ω,if_neg ω]
 ·unfold Match.sw;by_cases c1:k=j
  ·rw[if_pos c1];simp only;rw[if_pos c1]
  ·rw[if_neg c1];simp only;rw[if_neg c1];by_cases c2:k=i
   ·rw[if_pos c2,if_pos c2]
   ·rw[if_neg c2,if_neg c2]
def Qx(d:Nat→Nat)(a m b:Nat):Nat→Nat:=fun k=>if a≤k∧k<a+(b-m)then d (m+(k-a))else if a+(b-m)≤k∧k<b then d (k-(b-m))else d k
def YD(d:Nat→Nat)(a b n:Nat):Nat→Nat:=fun k=>if a≤k∧k<a+n then d (b+(k-a))else if b≤k∧k<b+n then d (a+(k-b))else d k
theorem Qqw(d:Nat→Nat)(a b:Nat):YD d a b 0=d:=by
 funext k;unfold YD
 rw[if_neg ω,if_neg ω]
theorem Qqx(d:Nat→Nat){a b n N:Nat}(h:a+N≤b)(hn:n<N):YD d a b (n+1)=sw (YD d a b n) (a+n) (b+n):=by
 funext k;unfold sw YD
 by_cases h1:k=b+n
 ·subst h1;rw[if_neg ω,if_pos ω,if_pos rfl,if_neg ω,if_neg ω]
  congr 1;omega
 ·rw[if_neg h1];by_cases h2:k=a+n
  ·subst h2;rw[if_pos ω,if_pos rfl,if_neg ω,if_neg ω]
   congr 1;omega
  ·rw[if_neg h2];by_cases h3:a≤k∧k<a+n
   ·rw[if_pos ω,if_pos h3]
   ·rw[if_neg ω,if_neg h3];by_cases h4:b≤k∧k<b+n
    ·rw[if_pos ω,if_pos h4]
    ·rw[if_neg ω,if_neg h4]
theorem Qxy(d:Nat→Nat){m i j:Nat}(hi:i≤m)(h:j<i):Qx d (m-i) m (m+j)=Qx (YD d (m-i) m j) (m-i+j) m (m+j):=by
 funext k;unfold Qx YD
 by_cases h1:m-i≤k∧k<m-i+j
 ·rw[if_pos ω,if_neg ω,if_neg ω,if_pos h1]
 ·rw[if_neg ω];by_cases h2:m-i+j≤k∧k<m-i+j+j
  ·rw[if_pos ω,if_pos ω,if_neg ω,if_pos ω]
   congr 1;omega
  ·rw[if_neg (by omega:¬(m-i+j≤k∧k<m-i+j+(m+j-m)))];by_cases h3:m-i+j+j≤k∧k<m+j
   ·rw[if_pos ω,if_pos ω,if_neg ω,if_neg ω]
   ·rw[if_neg ω,if_neg ω,if_neg ω,if_neg ω]
theorem Qxx(d:Nat→Nat){m i j:Nat}(hi:i≤m)(h:i<j):Qx d (m-i) m (m+j)=Qx (YD d (m-i) (m+j-i) i) (m-i) m (m+(j-i)):=by
 funext k;unfold Qx YD
 by_cases h1:m-i≤k∧k<m-i+(j-i)
 ·rw[if_pos ω,if_pos ω];by_cases h4:m-i≤m+(k-(m-i))∧m+(k-(m-i))<m-i+i
  ·omega
  ·rw[if_neg h4,if_neg ω]
 ·rw[if_neg (by omega:¬(m-i≤k∧k<m-i+(m+(j-i)-m)))];by_cases h2:m-i+(j-i)≤k∧k<m-i+j
  ·rw[if_pos ω,if_pos ω,if_pos ω]
   congr 1;omega
  ·rw[if_neg ω];by_cases h3:m-i+j≤k∧k<m+j
   ·rw[if_pos ω,if_neg ω,if_neg ω,if_pos ω]
    congr 1;omega
   ·rw[if_neg ω,if_neg ω,if_neg ω,if_neg ω]
theorem Qxz(d:Nat→Nat){m i:Nat}(hi:i≤m):Qx d (m-i) m (m+i)=YD d (m-i) m i:=by
 funext k;unfold Qx YD
 by_cases h1:m-i≤k∧k<m-i+i
 ·rw[if_pos ω,if_pos h1]
 ·rw[if_neg ω,if_neg h1];by_cases h2:m≤k∧k<m+i
  ·rw[if_pos ω,if_pos h2]
   congr 1;omega
  ·rw[if_neg ω,if_neg h2]
theorem il(d:Nat→Nat){a m b:Nat}(h:a=m∨m=b):Qx d a m b=d:=by
 funext k;unfold Qx
 split
 ·congr 1;omega
 ·split
  ·congr 1;omega
  ·rfl
theorem Qus(d:Nat→Nat){a e:Nat}(h:a≤e):Qx d a (a+1) (e+2)=sw (Qx d a (a+1) (e+1)) e (e+1):=by
 funext k;unfold sw Qx
 by_cases h1:k=e+1
 ·subst h1;rw[if_neg ω,if_pos ω,if_pos rfl,if_neg ω,if_pos ω]
  congr 1;omega
 ·rw[if_neg h1];by_cases h2:k=e
  ·subst h2;rw[if_pos ω,if_pos rfl,if_neg ω,if_neg ω]
   congr 1;omega
  ·rw[if_neg h2];by_cases h3:a≤k∧k<e
   ·rw[if_pos ω,if_pos ω]
   ·rw[if_neg ω,if_neg ω,if_neg ω,if_neg ω]
theorem Qrt(d:Nat→Nat){k m:Nat}(h:k<m):Qx d k m (m+1)=sw (Qx d (k+1) m (m+1)) (k+1) k:=by
 funext i;unfold sw Qx
 by_cases h1:i=k
 ·subst h1;rw[if_pos ω,if_pos rfl,if_pos ω]
  congr 1;omega
 ·rw[if_neg h1];by_cases h2:i=k+1
  ·subst h2;rw[if_neg ω,if_pos ω,if_pos rfl,if_neg ω,if_neg ω]
   congr 1;omega
  ·rw[if_neg h2];by_cases h3:k+1<i∧i≤m
   ·rw[if_neg ω,if_pos ω,if_neg ω,if_pos ω]
   ·rw[if_neg ω,if_neg ω,if_neg ω,if_neg ω]
theorem pN(d:Nat→Nat){a m b:Nat}(h1:a≤m)(h2:m≤b):Pm a b d (Qx d a m b):=by
 refine⟨fun k=>if a≤k∧k<a+(b-m)then m+(k-a)else if a+(b-m)≤k∧k<b then k-(b-m)else k,fun k=>if m≤k∧k<b then a+(k-m)else if a≤k∧k<m then k+(b-m)else k,fun k=>?_,fun k=>?_,fun k hk=>?_,fun k=>?_⟩
 ·simp only;by_cases c1:a≤k∧k<a+(b-m)
  ·rw[if_pos c1,if_pos ω];omega
  ·rw[if_neg c1];by_cases c2:a+(b-m)≤k∧k<b
   ·rw[if_pos c2,if_neg ω,if_pos ω];omega
   ·rw[if_neg c2,if_neg ω,if_neg ω]
 ·simp only;by_cases c1:m≤k∧k<b
  ·rw[if_pos c1,if_pos ω];omega
  ·rw[if_neg c1];by_cases c2:a≤k∧k<m
   ·rw[if_pos c2,if_neg ω,if_pos ω];omega
   ·rw[if_neg c2,if_neg ω,if_neg ω]
 ·simp only;rw[if_neg ω,if_neg ω]
 ·unfold Qx;by_cases c1:a≤k∧k<a+(b-m)
  ·rw[if_pos c1];simp only;rw[if_pos c1]
  ·rw[if_neg c1];simp only;rw[if_neg c1];by_cases c2:a+(b-m)≤k∧k<b
   ·rw[if_pos c2,if_pos c2]
   ·rw[if_neg c2,if_neg c2]
structure DM(z d:Nat→Nat)(a b i j:Nat):Prop where
 so:∀p q,a≤p→p<q→q≤i→p≠j→q≠j→ah z (d p) (d q)
 up:∀q,j<q→q≤i→ah z (d j) (d q)
 st:∀p q,a≤p→p<q→q≤i→z (d p)=z (d q)→d p<d q
 rs:∀p q,a≤p→p<q→i<q→q<b→d p<d q
theorem DM.start{i:Nat}(h:SO z d a i)(hr:∀p q,a≤p→p<q→i≤q→q<b→d p<d q)(hi:i<b):DM z d a b i i :=
 ⟨fun p q h1 h2 h3 h4 h5=>h p q h1 h2 ω,fun q h1 h2=>ω,fun p q h1 h2 h3 h4=>by
  by_cases e:q=i
  ·exact hr p q h1 h2 ω ω
  ·exact(h p q h1 h2 ω).ne h4,fun p q h1 h2 h3 h4=>hr p q h1 h2 ω h4⟩
theorem DM.step{i j:Nat}(h:DM z d a b i (j+1))(hj:a≤j)(hi:j+1≤i)(hl:z (d j)<z (d (j+1))):DM z (sw d (j+1) j) a b i j:=by
 have TI:sw d (j+1) j j=d (j+1):=by unfold sw;rw[if_pos rfl]
 have Tb:sw d (j+1) j (j+1)=d j:=by unfold sw;rw[if_neg ω,if_pos rfl]
 have hk:∀k,k≠j→k≠j+1→sw d (j+1) j k=d k:=fun k h1 h2=>by unfold sw;rw[if_neg h1,if_neg h2]
 refine⟨fun p q h1 h2 h3 h4 h5=>?_,fun q h1 h2=>?_,fun p q h1 h2 h3 h4=>?_,fun p q h1 h2 h3 h4=>?_⟩
 ·by_cases e1:p=j+1
  ·rw[e1,Tb,hk q h5 ω];exact h.so j q hj ω h3 ω ω
  ·rw[hk p h4 e1];by_cases e2:q=j+1
   ·rw[e2,Tb];exact h.so p j h1 ω ω e1 ω
   ·rw[hk q h5 e2];exact h.so p q h1 h2 h3 e1 e2
 ·rw[TI];by_cases e2:q=j+1
  ·rw[e2,Tb];exact .inl hl
  ·rw[hk q ω e2];exact h.up q ω h2
 ·by_cases e1:p=j+1
  ·rw[e1,Tb,hk q ω ω]at h4⊢;exact h.st j q hj ω h3 h4
  ·by_cases e3:p=j
   ·rw[e3,TI]at h4⊢;by_cases e2:q=j+1
    ·rw[e2,Tb]at h4;omega
    ·rw[hk q ω e2]at h4⊢;exact h.st (j+1) q ω ω h3 h4
   ·rw[hk p e3 e1]at h4⊢;by_cases e2:q=j+1
    ·rw[e2,Tb]at h4⊢;exact h.st p j h1 ω ω h4
    ·by_cases e4:q=j
     ·rw[e4,TI]at h4⊢;exact h.st p (j+1) h1 ω ω h4
     ·rw[hk q e4 e2]at h4⊢;exact h.st p q h1 h2 h3 h4
 ·rw[hk q ω ω];by_cases e1:p=j+1
  ·rw[e1,Tb];exact h.rs j q hj ω h3 h4
  ·by_cases e3:p=j
   ·rw[e3,TI];exact h.rs (j+1) q ω ω h3 h4
   ·rw[hk p e3 e1];exact h.rs p q h1 h2 h3 h4
theorem DM.stop{i j:Nat}(h:DM z d a b i j)(hj:a≤j)(hi:j≤i)(hs:j=a∨z (d j)≤z (d (j-1))):SO z d a (i+1):=by
 have key:a<j→ah z (d (j-1)) (d j):=fun hlt=>by
  have hs:z (d j)≤z (d (j-1)):=by rcases hs with rfl|hs <;> omega
  exact .of hs fun e=>h.st (j-1) j ω ω hi e
 intro p q h1 h2 h3;by_cases e1:p=j
 ·rw[e1];exact h.up q ω ω
 ·by_cases e2:q=j
  ·rw[e2];by_cases e3:p=j-1
   ·rw[e3];exact key ω
   ·exact(h.so p (j-1) h1 ω ω e1 ω).trans (key ω)
  ·exact h.so p q h1 h2 ω e1 e2
def XX(z d:Nat→Nat)(a m b:Nat):Prop:=∀i j,a≤i→i<m→m≤j→j<b→z (d i)=z (d j)→d i<d j
theorem Qot{i:Nat}(h1:SO z d (a+1) b)(hx:XX z d a (a+1) b)(hi:a+1≤i)(hib:i≤b)(hl:∀k,a+1≤k→k<i→z (d a)<z (d k))(hr:∀k,i≤k→k<b→z (d k)≤z (d a)):SO z (Qx d a (a+1) i) a b:=by
 have e1:∀k,a≤k→k<i-1→Qx d a (a+1) i k=d (k+1):=fun k h1 h2=>by unfold Qx;rw[if_pos ω];congr 1;omega
 have e2:Qx d a (a+1) i (i-1)=d a:=by unfold Qx;rw[if_neg ω,if_pos ω];congr 1;omega
 have e3:∀k,i≤k→Qx d a (a+1) i k=d k:=fun k h1=>by unfold Qx;rw[if_neg ω,if_neg ω]
 intro p q g1 g2 g3;by_cases c1:q<i-1
 ·rw[e1 p g1 ω,e1 q ω c1];exact h1 _ _ ω ω ω
 ·by_cases c2:q=i-1
  ·rw[c2,e2,e1 p g1 ω];exact .inl (hl _ ω ω)
  ·rw[e3 q ω];by_cases c3:p<i-1
   ·rw[e1 p g1 c3];exact h1 _ _ ω ω ω
   ·by_cases c4:p=i-1
    ·rw[c4,e2];exact .of (hr q ω g3) fun e=>hx a q ω ω ω g3 e
    ·rw[e3 p ω];exact h1 _ _ ω ω ω
theorem Qsa{i:Nat}(h1:SO z d a m)(hx:XX z d a m (m+1))(hi:a≤i)(him:i≤m)(hl:∀k,a≤k→k<i→z (d m)≤z (d k))(hr:∀k,i≤k→k<m→z (d k)<z (d m)):SO z (Qx d i m (m+1)) a (m+1):=by
 have e1:∀k,i<k→k≤m→Qx d i m (m+1) k=d (k-1):=fun k h1 h2=>by unfold Qx;rw[if_neg ω,if_pos ω];congr 1;omega
 have e2:Qx d i m (m+1) i=d m:=by unfold Qx;rw[if_pos ω];congr 1;omega
 have e3:∀k,k<i→Qx d i m (m+1) k=d k:=fun k h1=>by unfold Qx;rw[if_neg ω,if_neg ω]
 intro p q g1 g2 g3;by_cases c1:q<i
 ·rw[e3 p ω,e3 q c1];exact h1 _ _ ω ω ω
 ·by_cases c2:q=i
  ·rw[c2,e2,e3 p ω];exact .of (hl p g1 ω) fun e=>hx p m g1 ω ω ω e
  ·rw[e1 q ω ω];by_cases c3:p<i
   ·rw[e3 p c3];exact h1 _ _ ω ω ω
   ·by_cases c4:p=i
    ·rw[c4,e2];exact .inl (hr _ ω ω)
    ·rw[e1 p ω ω];exact h1 _ _ ω ω ω
structure VZ(z d:Nat→Nat)(a m b s e:Nat):Prop where
 P5:a≤s
 sm:s≤m
 me:m≤e
 eb:e≤b
 lo:SO z d a m
 hi:SO z d m b
 x:XX z d a m b
 l:∀c y,a≤c→c<s→e≤y→y<b→ah z (d c) (d y)
 r:∀u y,m≤u→u<e→s≤y→y<m→ah z (d u) (d y)
section
variable {s e:Nat}
theorem VZ.pj(h:VZ z d a m b s e){k:Nat}(hk:k<s):Qx d s m e k=d k:=by
 unfold Qx;rw[if_neg ω,if_neg ω]
theorem VZ.pg(h:VZ z d a m b s e){k:Nat}(h1:s≤k)(h2:k<s+(e-m)):Qx d s m e k=d (m+(k-s)):=by
 unfold Qx;rw[if_pos ⟨h1,h2⟩]
theorem VZ.yf(h:VZ z d a m b s e){k:Nat}(h1:s+(e-m)≤k)(h2:k<e):Qx d s m e k=d (k-(e-m)):=by
 unfold Qx;rw[if_neg ω,if_pos ⟨h1,h2⟩]
theorem VZ.ye(h:VZ z d a m b s e){k:Nat}(h1:e≤k):Qx d s m e k=d k:=by
 have:=h.sm;have:=h.me;unfold Qx;rw[if_neg ω,if_neg ω]
theorem VZ.jt(h:VZ z d a m b s e):SO z (Qx d s m e) a s:=fun i j h1 h2 h3=>by
 have:=h.sm;rw[h.pj ω,h.pj h3];exact h.lo i j h1 h2 ω
theorem VZ.Ah(h:VZ z d a m b s e):SO z (Qx d s m e) s (s+(e-m)):=fun i j h1 h2 h3=>by
 have:=h.eb;rw[h.pg h1 ω,h.pg ω h3];exact h.hi _ _ ω ω ω
theorem VZ.so3(h:VZ z d a m b s e):SO z (Qx d s m e) (s+(e-m)) e:=fun i j h1 h2 h3=>by
 have:=h.P5;have:=h.sm;have:=h.me;rw[h.yf h1 ω,h.yf ω h3];exact h.lo _ _ ω ω ω
theorem VZ.so4(h:VZ z d a m b s e):SO z (Qx d s m e) e b:=fun i j h1 h2 h3=>by
 have:=h.me;rw[h.ye h1,h.ye ω];exact h.hi _ _ ω h2 h3
theorem VZ.x1(h:VZ z d a m b s e):XX z (Qx d s m e) a s (s+(e-m)):=fun i j h1 h2 h3 h4 he=>by
 have:=h.sm;have:=h.me;have:=h.eb;rw[h.pj h2,h.pg h3 h4]at he⊢;exact h.x _ _ h1 ω ω ω he
theorem VZ.x2(h:VZ z d a m b s e):XX z (Qx d s m e) (s+(e-m)) e b:=fun i j h1 h2 h3 h4 he=>by
 have:=h.P5;have:=h.sm;have:=h.me;rw[h.yf h1 h2,h.ye h3]at he⊢;exact h.x _ _ ω ω ω h4 he
theorem VZ.all(h:VZ z d a m b s e){i j:Nat}(h1:a≤i)(h2:i<s+(e-m))(h3:s+(e-m)≤j)(h4:j<b):ah z (Qx d s m e i) (Qx d s m e j):=by
 have:=h.P5;have:=h.sm;have:=h.me;have:=h.eb;by_cases c1:i<s
 ·rw[h.pj c1];by_cases c2:j<e
  ·rw[h.yf h3 c2];exact h.lo _ _ h1 ω ω
  ·rw[h.ye ω];exact h.l _ _ h1 c1 ω h4
 ·rw[h.pg ω h2];by_cases c2:j<e
  ·rw[h.yf h3 c2];exact h.r _ _ ω ω ω ω
  ·rw[h.ye ω];exact h.hi _ _ ω ω h4
theorem VZ.done(h:VZ z d a m b s e){f g:Nat→Nat}(h1:Pm a (s+(e-m)) (Qx d s m e) f)(h2:SO z f a (s+(e-m)))(h3:Pm (s+(e-m)) b f g)(h4:SO z g (s+(e-m)) b):SO z g a b∧Pm a b d g:=by
 have:=h.P5;have:=h.sm;have:=h.me;have:=h.eb
 constructor
 ·intro i j g1 g2 g3;by_cases c1:j<s+(e-m)
  ·rw[h3.out (.inl ω),h3.out (.inl c1)];exact h2 i j g1 g2 c1
  ·by_cases c2:i<s+(e-m)
   ·rw[h3.out (.inl c2)];obtain⟨i',q1,q2,q3⟩:=h1.of g1 c2;obtain⟨j',r1,r2,r3⟩:=h3.of (k:=j) ω g3;rw[q3,r3,h1.out (.inr r1)];exact h.all q1 q2 r1 r2
   ·exact h4 i j ω g2 g3
 ·refine((pN d h.sm h.me).mono h.P5 h.eb).trans ((h1.mono (QI _) ω).trans (h3.mono ω (QI _)))
end
theorem Qy9{mid n s0 r0 s:Nat}(hab:a<m)(hmb:m<b)(hmid:mid=(a+b)/2)(hn:n=mid+m)(hs0:s0=if m>mid then n-b else a)(VN:r0=if m>mid then mid else m)
 (h1:s0≤s) (h2:s≤r0) (lo:SO z d a m) (hi:SO z d m b) (x:XX z d a m b)
 (hl:∀c,s0≤c→c<s→z (d (n-1-c))≤z (d c)) (hr:∀c,s≤c→c<r0→z (d c)<z (d (n-1-c))):VZ z d a m b s (n-s)∧s+(n-s-m)=mid:=by
 by_cases hm:m>mid
 ·rw[if_pos hm]at hs0 VN;refine⟨⟨ω,ω,ω,ω,lo,hi,x,fun c y g1 g2 g3 g4=>?_,fun u y g1 g2 g3 g4=>?_⟩,ω⟩
  ·have h5:=hl (s-1) ω ω;rw[show n-1-(s-1)=n-s by omega]at h5;have h6:z (d (s-1))≤z (d c):=by
    by_cases e:c=s-1
    ·exact Nat.le_of_eq (by rw[e])
    ·exact(lo c (s-1) g1 ω ω).le
   have h7:z (d y)≤z (d (n-s)):=by
    by_cases e:y=n-s
    ·exact Nat.le_of_eq (by rw[e])
    ·exact(hi (n-s) y ω ω g4).le
   exact .of ω fun e=>x c y g1 ω ω g4 e
  ·by_cases e0:s=r0
   ·omega
   ·have h5:=hr s ω ω;have h6:z (d y)≤z (d s):=by
     by_cases e:y=s
     ·exact Nat.le_of_eq (by rw[e])
     ·exact(lo s y ω ω g4).le
    have h7:z (d (n-1-s))≤z (d u):=by
     by_cases e:u=n-1-s
     ·exact Nat.le_of_eq (by rw[e])
     ·exact(hi u (n-1-s) g1 ω ω).le
    exact .inl ω
 ·rw[if_neg hm]at hs0 VN;refine⟨⟨ω,ω,ω,ω,lo,hi,x,fun c y g1 g2 g3 g4=>?_,fun u y g1 g2 g3 g4=>?_⟩,ω⟩
  ·have h5:=hl (s-1) ω ω;rw[show n-1-(s-1)=n-s by omega]at h5;have h6:z (d (s-1))≤z (d c):=by
    by_cases e:c=s-1
    ·exact Nat.le_of_eq (by rw[e])
    ·exact(lo c (s-1) g1 ω ω).le
   have h7:z (d y)≤z (d (n-s)):=by
    by_cases e:y=n-s
    ·exact Nat.le_of_eq (by rw[e])
    ·exact(hi (n-s) y ω ω g4).le
   exact .of ω fun e=>x c y g1 ω ω g4 e
  ·by_cases e0:s=r0
   ·omega
   ·have h5:=hr s ω ω;have h6:z (d y)≤z (d s):=by
     by_cases e:y=s
     ·exact Nat.le_of_eq (by rw[e])
     ·exact(lo s y ω ω g4).le
    have h7:z (d (n-1-s))≤z (d u):=by
     by_cases e:u=n-1-s
     ·exact Nat.le_of_eq (by rw[e])
     ·exact(hi u (n-1-s) g1 ω ω).le
    exact .inl ω
theorem Qwn{mid n s0 r0 s c:Nat}(hab:a<m)(hmb:m<b)(hmid:mid=(a+b)/2)(hn:n=mid+m)(hs0:s0=if m>mid then n-b else a)(VN:r0=if m>mid then mid else m)
 (lo:SO z d a m) (hi:SO z d m b) (h1:s0≤c) (h2:c<r0) (hc:z (d (n-1-c))≤z (d c)):∀k,s0≤k→k<c+1→z (d (n-1-k))≤z (d k):=by
 intro k g1 g2;by_cases e:k=c
 ·rw[e];exact hc
 ·have hm:a≤k∧c<m∧m≤n-1-c∧n-1-k<b:=by
   by_cases hm:m>mid
   ·rw[if_pos hm]at hs0 VN;omega
   ·rw[if_neg hm]at hs0 VN;omega
  have h5:=(lo k c hm.1 ω hm.2.1).le;have h6:=(hi (n-1-c) (n-1-k) hm.2.2.1 ω hm.2.2.2).le;omega
theorem Qtr{mid n s0 r0 s c:Nat}(hab:a<m)(hmb:m<b)(hmid:mid=(a+b)/2)(hn:n=mid+m)(hs0:s0=if m>mid then n-b else a)(VN:r0=if m>mid then mid else m)
 (lo:SO z d a m) (hi:SO z d m b) (h1:s0≤c) (h2:c<r0) (hc:z (d c)<z (d (n-1-c))):∀k,c≤k→k<r0→z (d k)<z (d (n-1-k)):=by
 intro k g1 g2;by_cases e:k=c
 ·rw[e];exact hc
 ·have hm:a≤c∧k<m∧m≤n-1-k∧n-1-c<b:=by
   by_cases hm:m>mid
   ·rw[if_pos hm]at hs0 VN;omega
   ·rw[if_neg hm]at hs0 VN;omega
  have h5:=(lo c k hm.1 ω hm.2.1).le;have h6:=(hi (n-1-k) (n-1-c) hm.2.2.1 ω hm.2.2.2).le;omega
def qw(d:Nat→Nat)(n c:Nat):Prop:=∀i j,i<c→c≤j→j<n→d i<d j
theorem qw.keep{n c:Nat}(h:qw d n c)(hp:Pm a b d d')(hb:b≤n)(hc:c≤a∨b≤c):qw d' n c:=by
 intro i j h1 h2 h3;have hi:∃i',i'<c∧d' i=d i':=by
  by_cases c1:i<a∨b≤i
  ·exact⟨i,h1,hp.out c1⟩
  ·obtain⟨k,q1,q2,q3⟩:=hp.of (k:=i) ω ω;exact⟨k,ω,q3⟩
 have hj:∃j',c≤j'∧j'<n∧d' j=d j':=by
  by_cases c1:j<a∨b≤j
  ·exact⟨j,h2,h3,hp.out c1⟩
  ·obtain⟨k,q1,q2,q3⟩:=hp.of (k:=j) ω ω;exact⟨k,ω,ω,q3⟩
 obtain⟨i',q1,q2⟩:=hi;obtain⟨j',r1,r2,r3⟩:=hj;rw[q2,r3];exact h i' j' q1 r1 r2
theorem SO.keep{u v:Nat}(h:SO z d u v)(hp:Pm a b d d')(hc:v≤a∨b≤u):SO z d' u v:=h.congr fun k h1 h2=>hp.out ω
structure Bx(z d:Nat→Nat)(n t:Nat):Prop where
 so:∀u,SO z d (u*t) (min (u*t+t) n)
 cut:∀u,qw d n (u*t)
structure Ins(z d:Nat→Nat)(n t s:Nat):Prop where
 so:∀u,u<s→SO z d (u*t) (u*t+t)
 cut:∀u,qw d n (u*t)
 BV:∀i j,i<j→s*t≤j→j<n→d i<d j
theorem Ins.zero{n t:Nat}(h:∀i j,i<j→j<n→d i<d j):Ins z d n t 0:=⟨fun u hu=>ω,fun u i j h1 h2 h3=>h i j ω h3,fun i j h1 _ h3=>h i j h1 h3⟩
theorem Ins.step{n t s:Nat}(h:Ins z d n t s)(hb:s*t+t≤n)(hp:Pm (s*t) (s*t+t) d d')(ho:SO z d' (s*t) (s*t+t)):Ins z d' n t (s+1):=by
 have hm:∀u,u<s→u*t+t≤s*t:=fun u hu=>by
  have:=Nat.mul_le_mul_right t (show u+1≤s from hu);rw[Nat.succ_mul]at this;exact this
 have hm':∀u,s<u→s*t+t≤u*t:=fun u hu=>by
  have:=Nat.mul_le_mul_right t (show s+1≤u from hu);rw[Nat.succ_mul]at this;exact this
 refine⟨fun u hu=>?_,fun u=>(h.cut u).keep hp hb ?_,fun i j h1 h2 h3=>?_⟩
 ·by_cases e:u=s
  ·rw[e];exact ho
  ·exact(h.so u ω).keep hp (.inl (hm u ω))
 ·by_cases e:u≤s
  ·left
   exact Nat.mul_le_mul_right t e
  ·right;exact hm' u ω
 ·rw[Nat.succ_mul]at h2;rw[hp.out (k:=j) (.inr h2)];by_cases c1:i<s*t∨s*t+t≤i
  ·rw[hp.out c1];exact h.BV i j h1 ω h3
  ·obtain⟨k,q1,q2,q3⟩:=hp.of (k:=i) ω ω;rw[q3];exact h.BV k j ω ω h3
theorem Ins.done{n t s:Nat}(h:Ins z d n t s)(hb:n<s*t+t)(hs:s*t≤n)(hp:Pm (s*t) n d d')(ho:SO z d' (s*t) n):Bx z d' n t:=by
 have hm:∀u,u<s→u*t+t≤s*t:=fun u hu=>by
  have:=Nat.mul_le_mul_right t (show u+1≤s from hu);rw[Nat.succ_mul]at this;exact this
 have hm':∀u,s<u→s*t+t≤u*t:=fun u hu=>by
  have:=Nat.mul_le_mul_right t (show s+1≤u from hu);rw[Nat.succ_mul]at this;exact this
 refine⟨fun u=>?_,fun u=>(h.cut u).keep hp (QI _) ?_⟩
 ·by_cases e:u=s
  ·rw[e];exact ho.mono (QI _) ω
  ·by_cases e':u<s
   ·exact((h.so u e').keep hp (.inl (hm u e'))).mono (QI _) ω
   ·have:=hm' u ω;exact .one _ _ ω
 ·by_cases e:u≤s
  ·left;exact Nat.mul_le_mul_right t e
  ·right;have:=hm' u ω;omega
structure NK(z d:Nat→Nat)(n t s:Nat):Prop where
 jt:∀u,u<s→SO z d (u*(2*t)) (u*(2*t)+2*t)
 j5:∀u,qw d n (u*(2*t))
 Ah:∀v,SO z d (s*(2*t)+v*t) (min (s*(2*t)+v*t+t) n)
 j3:∀v,qw d n (s*(2*t)+v*t)
theorem Bx.mrg{n t:Nat}(h:Bx z d n t):NK z d n t 0 :=
 ⟨fun u hu=>ω,fun u=>by rw[←Nat.mul_assoc];exact h.cut _,fun v=>by rw[Nat.zero_mul,ZL];exact h.so v,fun v=>by rw[Nat.zero_mul,ZL];exact h.cut v⟩
theorem NK.pre{n t s:Nat}(h:NK z d n t s){b:Nat}(h1:s*(2*t)+t≤b)(h2:b≤s*(2*t)+2*t)(h3:b≤n):SO z d (s*(2*t)) (s*(2*t)+t)∧SO z d (s*(2*t)+t) b∧XX z d (s*(2*t)) (s*(2*t)+t) b:=by
 have a0:=h.Ah 0;have a1:=h.Ah 1;have a2:=h.j3 1;rw[Nat.zero_mul,Nat.add_zero]at a0;rw[Nat.one_mul]at a1 a2;exact⟨a0.mono (QI _) ω,a1.mono (QI _) ω,fun i j g1 g2 g3 g4 _=>a2 i j g2 g3 ω⟩
theorem NK.step{n t s:Nat}(h:NK z d n t s)(hb:s*(2*t)+2*t≤n)(hp:Pm (s*(2*t)) (s*(2*t)+2*t) d d')(ho:SO z d' (s*(2*t)) (s*(2*t)+2*t)):NK z d' n t (s+1):=by
 have hm:∀u,u<s→u*(2*t)+2*t≤s*(2*t):=fun u hu=>by
  have:=Nat.mul_le_mul_right (2*t) (show u+1≤s from hu);rw[Nat.succ_mul]at this;exact this
 have hm':∀u,s<u→s*(2*t)+2*t≤u*(2*t):=fun u hu=>by
  have:=Nat.mul_le_mul_right (2*t) (show s+1≤u from hu);rw[Nat.succ_mul]at this;exact this
 have hv:∀v,(s+1)*(2*t)+v*t=s*(2*t)+(v+2)*t:=fun v=>by rw[Nat.succ_mul,Nat.add_mul];omega
 refine⟨fun u hu=>?_,fun u=>(h.j5 u).keep hp hb ?_,fun v=>?_,fun v=>?_⟩
 ·by_cases e:u=s
  ·rw[e];exact ho
  ·exact(h.jt u ω).keep hp (.inl (hm u ω))
 ·by_cases e:u≤s
  ·left;exact Nat.mul_le_mul_right _ e
  ·right;exact hm' u ω
 ·rw[hv];exact(h.Ah (v+2)).keep hp (.inr (by rw[Nat.add_mul];omega))
 ·rw[hv];exact(h.j3 (v+2)).keep hp hb (.inr (by rw[Nat.add_mul];omega))
theorem NK.done{n t s:Nat}(h:NK z d n t s)(hb:n<s*(2*t)+2*t)(hs:s*(2*t)≤n)(hp:Pm (s*(2*t)) n d d')(ho:SO z d' (s*(2*t)) n):Bx z d' n (2*t):=by
 have hm:∀u,u<s→u*(2*t)+2*t≤s*(2*t):=fun u hu=>by
  have:=Nat.mul_le_mul_right (2*t) (show u+1≤s from hu);rw[Nat.succ_mul]at this;exact this
 have hm':∀u,s<u→s*(2*t)+2*t≤u*(2*t):=fun u hu=>by
  have:=Nat.mul_le_mul_right (2*t) (show s+1≤u from hu);rw[Nat.succ_mul]at this;exact this
 refine⟨fun u=>?_,fun u=>(h.j5 u).keep hp (QI _) ?_⟩
 ·by_cases e:u=s
  ·rw[e];exact ho.mono (QI _) ω
  ·by_cases e':u<s
   ·exact((h.jt u e').keep hp (.inl (hm u e'))).mono (QI _) ω
   ·have:=hm' u ω;exact .one _ _ ω
 ·by_cases e:u≤s
  ·left;exact Nat.mul_le_mul_right _ e
  ·right;have:=hm' u ω;omega
theorem NK.last{n t s:Nat}(h:NK z d n t s)(hb:n≤s*(2*t)+t):SO z d (s*(2*t)) n:=by
 have a0:=h.Ah 0;rw[Nat.zero_mul,Nat.add_zero]at a0;exact a0.mono (QI _) ω
theorem Bx.all{n t:Nat}(h:Bx z d n t)(hn:n≤t):SO z d 0 n:=by
 have:=h.so 0;rw[Nat.zero_mul,ZL]at this;exact this.mono (QI _) ω
end
theorem Ż{R:Nat→Nat→Prop}(hR:∀x y,R x y→¬R y x):∀{l l':List Nat},(∀x,x∈l↔x∈l')→l.Pairwise R→l'.Pairwise R→l=l'
 |[],[],_,_,_=>rfl
 |[],y::t,hm,_,_=>by have:=(hm y).2 (XG ..);cases this
 |x::r,[],hm,_,_=>by have:=(hm x).1 (XG ..);cases this
 |x::r,y::t,hm,h1,h2=>by
  have a1:=List.pairwise_cons.1 h1;have a2:=List.pairwise_cons.1 h2;have hi:∀x,¬R x x:=fun x h=>hR x x h h
  have e:x=y:=by
   rcases List.mem_cons.1 ((hm x).1 (XG ..))with e|m1
   ·exact e
   ·rcases List.mem_cons.1 ((hm y).2 (XG ..))with e|m2
    ·exact e.symm
    ·exact absurd (a1.1 y m2) (hR _ _ (a2.1 x m1))
  subst e;rw[Ż hR (fun u=>?_) a1.2 a2.2]
  constructor
  ·intro hu;rcases List.mem_cons.1 ((hm u).1 (UN _ hu))with e|h
   ·exact absurd (a1.1 u hu) (by rw[e];exact hi x)
   ·exact h
  ·intro hu;rcases List.mem_cons.1 ((hm u).2 (UN _ hu))with e|h
   ·exact absurd (a2.1 u hu) (by rw[e];exact hi x)
   ·exact h
theorem Quk(s:Sd){l:List Nat}(hl:l.Pairwise (·<·)){d d':Nat→Nat}(he:l=(List.range l.length).map d)(hp:Pm 0 l.length d d')(hs:SO s.sz d' 0 l.length):(List.range l.length).map d'=J7 s l:=by
 refine Ż (Ql6 s) (fun x=>?_) ?_ (iK s l hl).2
 ·rw[(iK s l hl).1.mem_iff]
  constructor
  ·intro hx;obtain⟨i,hi,rfl⟩:=List.mem_map.1 hx;obtain⟨k,_,h2,h3⟩:=hp.of (k:=i) ω (List.mem_range.1 hi);rw[h3,he];exact List.mem_map.2 ⟨k,List.mem_range.2 h2,rfl⟩
  ·intro hx;rw[he]at hx;obtain⟨i,hi,rfl⟩:=List.mem_map.1 hx;obtain⟨k,_,h2,h3⟩:=hp.symm.of (k:=i) ω (List.mem_range.1 hi);rw[h3];exact List.mem_map.2 ⟨k,List.mem_range.2 h2,rfl⟩
 ·rw[List.pairwise_map];refine List.Pairwise.imp_of_mem ?_ List.pairwise_lt_range;intro i j hi hj hij;have:=hs i j ω hij (List.mem_range.1 hj);unfold ah at this;unfold ahead;simp only[Bool.or_eq_true,Bool.and_eq_true,decide_eq_true_eq];omega
end Match
namespace Shape
open Mem Tree
theorem Æ{w:World}{b:Nat}{o:Obj}(h:w.heap[b]?=some o):b<w.heap.size:=by
 rcases Nat.lt_or_ge b w.heap.size with h1|h1
 ·exact h1
 ·rw[Array.getElem?_eq_none h1]at h;cases h
theorem Qo3{b:Nat}{o:Obj}{w w':World}{row:Option Nat}(h:w.heap[b]?=some o)(hg:w.grownBy w' row)(hne:some b=none∨some b≠row):w'.heap[b]?=some o:=by
 rcases hne with hne|hne
 ·cases hne
 ·rw[hg.block b (Æ h) hne];exact h
def bN(b:Nat)(o:Obj):QC:=⟨some b,fun w=>w.heap[b]?=some o,fun w k h hk=>(Option.some.inj hk) ▸ Æ h,fun w w' row h hg hne=>Qo3 h hg hne⟩
def PR(g:Nat)(vN vP vS vK:Value)(nN:Nat)(cN:List Value)(nP:Nat)(cP:List Value)(nS:Nat)(cS:List Value)(nK:Nat)(us vs:List Value)(ks:List (List Nat))(X:List QC):List QC :=
 Kf 59 g [vN,vP,vS,vK]::Qb 24 4 vN nN cN::Qb 3 1 vP nP cP::Qb 3 1 vS nS cS::Qb 32 1 vK nK us::(VW vs ks++X)
def Safe(S:Nat→Prop)(B:Nat)(X:List QC):Prop:=∀b,S b→b<B∨∃o,bN b o∈X
theorem Safe.more{S:Nat→Prop}{B:Nat}{X Y:List QC}(h:Safe S B X)(hs:∀t∈X,t∈Y):Safe S B Y:=fun b hb=>(h b hb).imp id fun⟨o,ho⟩=>⟨o,hs _ ho⟩
theorem Safe.keep{S:Nat→Prop}{B:Nat}{X R R':List QC}{w w':World}(h:Safe S B X)(h1:QH w B (R++X))(h2:QH w' B (R'++X))(hb:Below B w w'):∀b,S b→w'.heap[b]? = w.heap[b]? := fun b hS=>by
 rcases h b hS with h|⟨o,ho⟩
 ·exact hb.block b h
 ·have e1:w.heap[b]?=some o:=h1.h _ (List.mem_append_right _ ho);have e2:w'.heap[b]?=some o:=h2.h _ (List.mem_append_right _ ho);rw[e1,e2]
theorem Z4(g:Nat)(vN vP vS vK:Value)(nN:Nat)(cN:List Value)(nP:Nat)(cP:List Value)(nS:Nat)(cS:List Value)(nK:Nat)(us vs:List Value)(ks:List (List Nat))(X:List QC) :
 PR g vN vP vS vK nN cN nP cP nS cS nK us vs ks X=PR g vN vP vS vK nN cN nP cP nS cS nK us vs ks []++X:=by
 simp only[PR,List.append_nil,List.cons_append]
structure PS(w:World)(B:Nat)(S:Nat→Prop)(X:List QC)(g:Nat)(L:List Nd)(ps zs:List Int)(ks:List (List Nat)):Prop where
 all:∃(vN vP vS vK:Value)(us:List Value)(nps:List (Nd×Value)),QH w B (PR g vN vP vS vK nps.length (nps.flatMap VC) ps.length (ps.map iv) zs.length (zs.map iv) us.length us us ks X)∧nps.map (·.1)=L∧(∀p∈nps,Fs w S p.2 p.1.c)∧us.length=ks.length
 safe:Safe S B X
section
variable {w w':World}{B:Nat}{S:Nat→Prop}{X:List QC}{g:Nat}{L L':List Nd}{ps zs ps' zs':List Int}{ks ks':List (List Nat)}{t t':QC}
theorem PS.GD(h:PS w B S X g L ps zs ks):∃R,QH w B (R++X):=by
 obtain⟨vN,vP,vS,vK,us,nps,h1,_⟩:=h.all;rw[Z4]at h1;exact⟨_,h1⟩
theorem PS.keep(h:PS w B S X g L ps zs ks)(h':PS w' B S X g L' ps' zs' ks')(hb:Below B w w'):∀b,S b→w'.heap[b]?=w.heap[b]?:=by
 obtain⟨R,h1⟩:=h.GD;obtain⟨R',h2⟩:=h'.GD;exact h.safe.keep h1 h2 hb
theorem PS.le(h:PS w B S X g L ps zs ks):B≤w.heap.size:=by
 obtain⟨R,h1⟩:=h.GD;exact h1.B
theorem PS.get(h:PS w B S X g L ps zs ks)(ht:t∈X):t.H w:=by
 obtain⟨R,h1⟩:=h.GD;exact h1.h _ (List.mem_append_right _ ht)
theorem PS.later(h:PS w B S X g L ps zs ks)(hb:Below w.heap.size w w'):PS w' B S X g L ps zs ks:=by
 obtain⟨vN,vP,vS,vK,us,nps,h1,h2,h3,h4⟩:=h.all;have h5:=h1.later hb;have hk:∀b,S b→w'.heap[b]?=w.heap[b]?:=by rw[Z4]at h1 h5;exact h.safe.keep h1 h5 (hb.mono h.le)
 exact⟨⟨vN,vP,vS,vK,us,nps,h5,h2,fun p hp=>(h3 p hp).keep hk,h4⟩,h.safe⟩
theorem PS.add(h:PS w B S X g L ps zs ks)(hb:Below w.heap.size w w')(ht:t.H w')(hn:∀k,t.b=some k→w.heap.size≤k):PS w' B S (t::X) g L ps zs ks:=by
 obtain⟨vN,vP,vS,vK,us,nps,h1,h2,h3,h4⟩:=h.all;have h5:=h1.snoc (Qd8 hb) ht hn;have hk:∀b,S b→w'.heap[b]?=w.heap[b]?:=by rw[Z4]at h1;have h5':=h1.later hb;exact h.safe.keep h1 h5' (hb.mono h.le)
 refine⟨⟨vN,vP,vS,vK,us,nps,h5.perm ?_,h2,fun p hp=>(h3 p hp).keep hk,h4⟩,h.safe.more fun t ht=>UN _ ht⟩;rw[Z4,Z4 _ _ _ _ _ _ _ _ _ _ _ _ _ _ _ (t::X),List.append_assoc];exact List.Perm.append_left _ List.perm_append_comm
theorem PS.less(h:PS w B S (t::X) g L ps zs ks)(hs:Safe S B X):PS w B S X g L ps zs ks:=by
 obtain⟨vN,vP,vS,vK,us,nps,h1,h2,h3,h4⟩:=h.all;refine⟨⟨vN,vP,vS,vK,us,nps,h1.sub ?_,h2,h3,h4⟩,hs⟩;rw[Z4,Z4 _ _ _ _ _ _ _ _ _ _ _ _ _ _ _ (t::X)];exact List.Sublist.append (List.Sublist.refl _) (List.sublist_cons_self _ _)
theorem PS.turn(h:PS w B S (t::X) g L ps zs ks)(hs:Safe S B X)(hg:w.grownBy w' t.b)(ht:t'.H w')(hb:t'.b=t.b):PS w' B S (t'::X) g L ps zs ks∧Below B w w':=by
 obtain⟨vN,vP,vS,vK,us,nps,h1,h2,h3,h4⟩:=h.all;rw[Z4]at h1;generalize hR:PR g vN vP vS vK nps.length (nps.flatMap VC) ps.length (ps.map iv) zs.length (zs.map iv) us.length us us ks []=R at h1;have hi:(R++t::X)[R.length]?=some t:=ψ
 have h5:=h1.set hi hg ht (.inl hb);have hB:=h1.QF hi hg;have e:(R++t::X).set R.length t'=R++t'::X:=ψ
 rw[e]at h5
 have hk:∀b,S b→w'.heap[b]? = w.heap[b]? := fun b hS=>by
  rcases hs b hS with q|⟨o,ho⟩
  ·exact hB.block b q
  ·have e1:w.heap[b]?=some o:=h1.h _ (List.mem_append_right _ (UN _ ho));have e2:w'.heap[b]?=some o:=h5.h _ (List.mem_append_right _ (UN _ ho));rw[e1,e2]
 refine⟨⟨⟨vN,vP,vS,vK,us,nps,?_,h2,fun p hp=>(h3 p hp).keep hk,h4⟩,hs.more fun t ht=>UN _ ht⟩,hB⟩;rw[Z4,hR];exact h5
theorem PS.cast(h:PS w B S X g L ps zs ks)(h1:L=L')(h2:ps=ps')(h3:zs=zs')(h4:ks=ks'):PS w B S X g L' ps' zs' ks':=by
 subst h1;subst h2;subst h3;subst h4;exact h
end
theorem Qx5{g:Nat}{vN vP vS vK:Value}{nN:Nat}{cN:List Value}{nP:Nat}{cP:List Value}{nS:Nat}{cS:List Value}{nK:Nat}{us vs:List Value}{ks:List (List Nat)}{X:List QC}{i n':Nat}{v:Value}{c':List Value}{l':List Nat}(hi:i<vs.length)(hl:vs.length=ks.length)(hn:n'=l'.length)(hc:c'=l'.map nv) :
 ((PR g vN vP vS vK nN cN nP cP nS cS nK us vs ks X).set (i+5) (Qb 3 1 v n' c')).set 4 (Qb 32 1 vK nK (us.set i v))=PR g vN vP vS vK nN cN nP cP nS cS nK (us.set i v) (vs.set i v) (ks.set i l') X:=by
 subst hn;subst hc;unfold PR;rw[←Uy vs ks i v l' hl,←List.set_append_left _ _ (by rw[Ye vs ks hl,←hl];exact hi)];rfl
theorem OH{g:Nat}{vN vP vS vK:Value}{nN:Nat}{cN:List Value}{nP:Nat}{cP:List Value}{nS:Nat}{cS:List Value}{nK:Nat}{us vs:List Value}{ks:List (List Nat)}{X:List QC}{i:Nat}{v:Value}{l:List Nat}(hv:vs[i]?=some v)(hk:ks[i]?=some l) :
 (PR g vN vP vS vK nN cN nP cP nS cS nK us vs ks X)[i+5]?=some (Qb 3 1 v l.length (l.map nv)):=by
 show(VW vs ks++X)[i]?=_;have h:=Xg hv hk;rw[List.getElem?_append_left (List.getElem?_eq_some_iff.1 h).1,h]
theorem Gk{R:List QC}{i:Nat}{t t':QC}(h:R[i]?=some t):(R.set i t')[i]?=some t':=by
 rw[List.getElem?_set_self (List.getElem?_eq_some_iff.1 h).1]
theorem Qu0{w:World}{B g:Nat}{vN vP vS vK:Value}{nN:Nat}{cN:List Value}{nP:Nat}{cP:List Value}{nS:Nat}{cS:List Value}{nK:Nat}{us vs:List Value}{ks:List (List Nat)}{X:List QC}{v:Value}{l:List Nat}(hl:vs.length=ks.length)
 (h:QH w B (PR g vN vP vS vK nN cN nP cP nS cS nK us vs ks X++[Qb 3 1 v l.length (l.map nv)])):QH w B (PR g vN vP vS vK nN cN nP cP nS cS nK us (vs++[v]) (ks++[l]) X):=by
 refine h.perm ?_;have e:PR g vN vP vS vK nN cN nP cP nS cS nK us (vs++[v]) (ks++[l]) X=PR g vN vP vS vK nN cN nP cP nS cS nK us vs ks []++([Qb 3 1 v l.length (l.map nv)]++X):=by unfold PR;rw[←Ĥ vs ks v l hl];simp
 rw[e,Z4,List.append_assoc];exact List.Perm.append_left _ List.perm_append_comm
theorem Jz:(Tryz.prog.info? 24).map (fun i=>(i.zero,i.size,i.bytes))=some (some (ξ #[ι γ 0,σ ⟨#[]⟩,σ ⟨#[]⟩,ς none 0 0]),4,64):=χ
theorem PS.box{w:World}{B:Nat}{S:Nat→Prop}{X:List QC}{g:Nat}{L:List Nd}{ps zs:List Int}{ks:List (List Nat)}(h:PS w B S X g L ps zs ks)(e:TypeId)(cs:Array Value):PS (w.alloc (θ cs e)) B S (Kf e w.heap.size cs.toList::X) g L ps zs ks :=
 h.add (Qz w _) (World.ownsRow_lit w cs 1 (Nat.zero_le _) (by unfold maxLen;omega) ψ) fun k hk=>by
  have hk:some w.heap.size=some k:=hk;injection hk with hk;omega
theorem fh{g:Nat}{vN vP vS vK:Value}{nN:Nat}{cN:List Value}{nP:Nat}{cP:List Value}{nS:Nat}{cS:List Value}{nK:Nat}{us vs:List Value}{ks:List (List Nat)}{X:List QC}{t:QC}(h:t∈X):t∈PR g vN vP vS vK nN cN nP cP nS cS nK us vs ks X:=by
 rw[Z4];exact List.mem_append_right _ h
theorem Yi{W:World}{B:Nat}{R:List QC}{g:Nat}{T:TypeId}{a b c d:Value}(h:QH W B R)(hm:Kf T g [a,b,c,d]∈R) :
 (W.cell? ⟨g,0,none⟩=some a∧W.cell? ⟨g,1,none⟩=some b∧W.cell? ⟨g,2,none⟩=some c∧W.cell? ⟨g,3,none⟩=some d)∧W.frozen? ⟨g,0,none⟩=false∧W.frozen? ⟨g,1,none⟩=false∧W.frozen? ⟨g,2,none⟩=false∧W.frozen? ⟨g,3,none⟩=false:=by
 obtain⟨j,hj⟩:=List.getElem?_of_mem hm;exact Zr h hj
theorem QH.MP{W:World}{B:Nat}{R:List QC}{i n c g:Nat}{e:TypeId}{xs:List Value}(h:QH W B R)(hi:R[i]?=some (Qb e 4 (ς (some ⟨g,0,none⟩) n c) n xs))(j:Nat)(a0 a1 a2 a3:Value) :
 QH ((((W.setCell ⟨g,j,none⟩ a0).setCell ⟨g,j+1,none⟩ a1).setCell ⟨g,j+2,none⟩ a2).setCell ⟨g,j+3,none⟩ a3) B (R.set i (Qb e 4 (ς (some ⟨g,0,none⟩) n c) n ((((xs.set j a0).set (j+1) a1).set (j+2) a2).set (j+3) a3)))∧
 Below B W ((((W.setCell ⟨g,j,none⟩ a0).setCell ⟨g,j+1,none⟩ a1).setCell ⟨g,j+2,none⟩ a2).setCell ⟨g,j+3,none⟩ a3):=by
 obtain⟨h1,b1⟩:=h.store hi j a0;obtain⟨h2,b2⟩:=h1.store (Gk hi) (j+1) a1;rw[List.set_set]at h2;obtain⟨h3,b3⟩:=h2.store (Gk hi) (j+2) a2;rw[List.set_set]at h3;obtain⟨h4,b4⟩:=h3.store (Gk hi) (j+3) a3;rw[List.set_set]at h4;exact⟨h4,((b1.trans b2).trans b3).trans b4⟩
theorem Ao(xs:List Value)(z0 z1 z2 z3 a0 a1 a2 a3:Value)(m:Nat)(hm:xs.length=m):((((xs++[z0,z1,z2,z3]).set m a0).set (m+1) a1).set (m+2) a2).set (m+3) a3=xs++[a0,a1,a2,a3]:=by
 subst hm;simp
section
variable {w w':World}{B:Nat}{S:Nat→Prop}{X:List QC}{g:Nat}{L:List Nd}{ps zs:List Int}{ks:List (List Nat)}
theorem PS.rd(h:PS w B S X g L ps zs ks):∃aN cN aP cP aS cS aK cK,(w.cell? ⟨g,0,none⟩=some (ς aN L.length cN)∧w.cell? ⟨g,1,none⟩=some (ς aP ps.length cP)∧w.cell? ⟨g,2,none⟩=some (ς aS zs.length cS)∧w.cell? ⟨g,3,none⟩=some (ς aK ks.length cK))∧
 (w.frozen? ⟨g,0,none⟩=false∧w.frozen? ⟨g,1,none⟩=false∧w.frozen? ⟨g,2,none⟩=false∧w.frozen? ⟨g,3,none⟩=false)∧
 (∀(i:Nat)(nd:Nd),L[i]?=some nd→∃gN s,aN=some ⟨gN,0,none⟩∧(w.cell? ⟨gN,i*4,none⟩=some (ι γ nd.k)∧w.cell? ⟨gN,i*4+1,none⟩=some (σ nd.x)∧w.cell? ⟨gN,i*4+2,none⟩=some (σ nd.y)∧w.cell? ⟨gN,i*4+3,none⟩=some s)∧Fs w S s nd.c):=by
 obtain⟨vN,vP,vS,vK,us,nps,hF,hL,VX,KU⟩:=h.all;obtain⟨aN,ZO,rfl,_,_⟩:=hF.slice (i:=1) rfl;obtain⟨aP,EN,rfl,_,_⟩:=hF.slice (i:=2) rfl;obtain⟨aS,G',rfl,_,_⟩:=hF.slice (i:=3) rfl;obtain⟨aK,ZB,rfl,_,_⟩:=hF.slice (i:=4) rfl;obtain⟨⟨q0,q1,q2,q3⟩,z0,z1,z2,z3⟩:=Zr hF (j:=0) rfl;have hl:nps.length=L.length:=by rw[←hL,List.length_map]
 refine⟨aN,ZO,aP,EN,aS,G',aK,ZB,⟨by rw[←hl];exact q0,q1,q2,by rw[←KU];exact q3⟩,⟨z0,z1,z2,z3⟩,fun i nd hi=>?_⟩;rw[←hL,List.getElem?_map]at hi;cases hp:nps[i]? with
 |none=>rw[hp]at hi;cases hi
 |some q=>obtain⟨tY,s⟩:=q;rw[hp]at hi;injection hi with hi;have hi:tY=nd:=hi;subst hi;obtain⟨gN,c',e,_,_⟩:=hF.sliceAt (i:=1) rfl (by have:=(List.getElem?_eq_some_iff.1 hp).1;omega);injection e with e _ _;subst e;exact⟨gN,s,rfl,yJ (j:=1) (nps:=nps) hF rfl hp,VX _ (List.mem_of_getElem? hp)⟩
theorem PS.EW{e:TypeId}{sz n c b:Nat}{xs:List Value}(h:PS w B S (Qb e sz (ς (some ⟨b,0,none⟩) n c) n xs::X) g L ps zs ks)(hs:Safe S B X)(j:Nat)(u:Value):PS (w.setCell ⟨b,j,none⟩ u) B S (Qb e sz (ς (some ⟨b,0,none⟩) n c) n (xs.set j u)::X) g L ps zs ks∧Below B w (w.setCell ⟨b,j,none⟩ u):=by
 have ho:w.ownsRow 0 e sz (ς (some ⟨b,0,none⟩) n c) n xs:=h.get List.mem_cons_self;obtain⟨h1,h2⟩:=ho.stored j u;exact h.turn hs h2 h1 rfl
theorem PS.KD{T:TypeId}{b:Nat}{x0 x1 x2 x3:Value}(h:PS w B S (Kf T b [x0,x1,x2,x3]::X) g L ps zs ks)(hs:Safe S B X)(a0 a1 a2 a3:Value):PS ((((w.setCell ⟨b,0,none⟩ a0).setCell ⟨b,1,none⟩ a1).setCell ⟨b,2,none⟩ a2).setCell ⟨b,3,none⟩ a3) B S (Kf T b [a0,a1,a2,a3]::X) g L ps zs ks∧
 Below B w ((((w.setCell ⟨b,0,none⟩ a0).setCell ⟨b,1,none⟩ a1).setCell ⟨b,2,none⟩ a2).setCell ⟨b,3,none⟩ a3):=by
 obtain⟨h1,b1⟩:=PS.EW h hs 0 a0;obtain⟨h2,b2⟩:=PS.EW h1 hs 1 a1;obtain⟨h3,b3⟩:=PS.EW h2 hs 2 a2;obtain⟨h4,b4⟩:=PS.EW h3 hs 3 a3;exact⟨h4,((b1.trans b2).trans b3).trans b4⟩
theorem PS.fs{L':List Nd}{ps' zs':List Int}{ks':List (List Nat)}(h:PS w B S X g L ps zs ks)(h':PS w' B S X g L' ps' zs' ks')(hb:Below B w w'){v:Value}{f:F}(hf:Fs w S v f):Fs w' S v f:=hf.keep (h.keep h' hb)
def pD(w:World)(g:Nat):Nat:=match w.cell? ⟨g,0,none⟩with
 |some (ς _ n _)=>n
 |_=>0
theorem PS.len(h:PS w B S X g L ps zs ks):pD w g=L.length:=by
 obtain⟨aN,cN,aP,cP,aS,cS,aK,cK,⟨q0,_⟩,_⟩:=h.rd;unfold pD;rw[q0]
end
section
variable {w W:World}{B:Nat}{S:Nat→Prop}{X:List QC}{g:Nat}{L:List Nd}{ps zs:List Int}{ks:List (List Nat)}
theorem PS.re{vN vP vS vK:Value}{us:List Value}{nps:List (Nd×Value)}{zs':List Int}{ks':List (List Nat)}(h:PS w B S X g L ps zs ks)(hL:nps.map (·.1)=L)(VX:∀p∈nps,Fs w S p.2 p.1.c)(KU:us.length=ks'.length)
 (hF:QH W B (PR g vN vP vS vK nps.length (nps.flatMap VC) ps.length (ps.map iv) zs'.length (zs'.map iv) us.length us us ks' X)) (hb:Below B w W):PS W B S X g L ps zs' ks':=by
 have hF':=hF;rw[Z4]at hF';obtain⟨R,h0⟩:=h.GD;have hk:=h.safe.keep h0 hF' hb;exact⟨⟨vN,vP,vS,vK,us,nps,hF,hL,fun p hp=>(VX p hp).keep hk,KU⟩,h.safe⟩
theorem PS.size{aS:Option Addr}{n cS:Nat}(h:PS w B S X g L ps zs ks)(q2:w.cell? ⟨g,2,none⟩=some (ς aS n cS)){t:Nat}(ht:t<zs.length)(z:Int):∃gS u,aS=some ⟨gS,0,none⟩∧w.cell? ⟨gS,t,none⟩=some (ι γ u)∧w.frozen? ⟨gS,t,none⟩=false∧
 PS (w.setCell ⟨gS,t,none⟩ (ι γ z)) B S X g L ps (zs.set t z) ks∧Below B w (w.setCell ⟨gS,t,none⟩ (ι γ z)):=by
 obtain⟨vN,vP,vS,vK,us,nps,hF,hL,VX,KU⟩:=h.all;obtain⟨⟨p0,p1,p2,p3⟩,_⟩:=Zr hF (j:=0) rfl;obtain rfl:=Option.some.inj (p2.symm.trans q2);obtain⟨gS,c',e,_,_⟩:=hF.sliceAt (i:=3) rfl ω;injection e with e e2 _;subst e;subst e2;have hc:(zs.map iv)[t]?=some (ι γ (zs[t]'ht)):=by rw[List.getElem?_map,List.getElem?_eq_getElem ht];rfl
 have hst:=hF.store (i:=3) rfl t (ι γ z);refine⟨gS,_,rfl,hF.cell (i:=3) rfl hc,hF.JO (i:=3) rfl t,h.re (vN:=vN) (vP:=vP) (vS:=ς (some ⟨gS,0,none⟩) zs.length cS) (vK:=vK) (us:=us) hL VX KU ?_ hst.2,hst.2⟩;rw[List.length_set,List.map_set];exact hst.1
theorem PS.appended{vN vP vS vK v:Value}{us cN cP cS:List Value}{nps:List (Nd×Value)}{N nP nS nK t q:Nat}{l:List Nat}(h:PS w B S X g L ps zs ks)(hL:nps.map (·.1)=L)(VX:∀p∈nps,Fs w S p.2 p.1.c)(KU:us.length=ks.length)
 (hN:nps.length=N) (LF:nps.flatMap VC=cN) (LB:ps.length=nP) (LD:ps.map iv=cP) (Lc:zs.length=nS) (XE:zs.map iv=cS) (LX:us.length=nK) (ht:ks[t]?=some l)
 (hF:QH W B (((PR g vN vP vS vK N cN nP cP nS cS nK us us ks X).set (t+5) (Qb 3 1 v (l.length+1) (l.map nv++[ι γ (q:Int)]))).set 4 (Qb 32 1 vK nK (us.set t v)))) (hb:Below B w W):PS W B S X g L ps zs (ks.set t (l++[q])):=by
 have hlt:t<us.length:=by rw[KU];exact(List.getElem?_eq_some_iff.1 ht).1
 rw[Qx5 (l':=l++[q]) hlt KU ψ (by simp[nv])]at hF;subst hN;subst LF;subst LB;subst LD;subst Lc;subst XE;subst LX;refine h.re (vN:=vN) (vP:=vP) (vS:=vS) (vK:=vK) (us:=us.set t v) hL VX (by simp[KU]) ?_ hb;rw[List.length_set];exact hF
end
theorem Qzt{w:World}{B g:Nat}{vN vP vS vK:Value}{nN:Nat}{cN:List Value}{nP:Nat}{cP:List Value}{nS:Nat}{cS:List Value}{nK:Nat}{us vs:List Value}{ks:List (List Nat)}{X:List QC}{t:QC}(h:QH w B (PR g vN vP vS vK nN cN nP cP nS cS nK us vs ks X))(ht:t∈X):t.b=none∨t.b≠vN.ownBlock:=by
 obtain⟨j,hj⟩:=List.getElem?_of_mem ht;have hj':(PR g vN vP vS vK nN cN nP cP nS cS nK us vs ks X)[(PR g vN vP vS vK nN cN nP cP nS cS nK us vs ks []).length+j]?=some t:=by rw[Z4,List.getElem?_append_right ω,Nat.add_sub_cancel_left];exact hj
 exact h.ne hj' (j:=1) rfl (by have:5≤(PR g vN vP vS vK nN cN nP cP nS cS nK us vs ks []).length:=(by simp only[PR,List.length_cons];omega);omega)
abbrev TL(W W':World):Prop:=Below W.heap.size W W'
structure CI(w0:World)(Φ:List (Cd TL))(Fin:Value→World→Prop)(iC iS:Nat)(L:Nat→Bool)(x:Nat→Value)(W:World):Prop where
 QF:L iS=false→Below w0.heap.size w0 W
 kc:L iS=false→∀i,L i=true→(YA Φ i).p (x i) W
 fin:L iS=true→Fin (x iC) W
section
variable {w0 W W':World}{Φ:List (Cd TL)}{Fin:Value→World→Prop}{iC iS:Nat}{L:Nat→Bool}{x:Nat→Value}{v:Value}
theorem CI.start(w:World):CI w Φ Fin iC iS (fun _=>false) x w.drew:=⟨fun _=>⟨rfl,rfl,rfl,Nat.le_refl _,fun _ _=>rfl⟩,fun _ _ h=>(by cases h),fun h=>(by cases h)⟩
theorem CI.quiet(h:CI w0 Φ Fin iC iS L x W){i:Nat}(hS:L iS=false)(hi:iS≠i)(hb:Below W.heap.size W W')(hp:(YA Φ i).p v W'):CI w0 Φ Fin iC iS (Zh L i) (Qq x i v) W':=by
 refine⟨fun _=>(h.QF hS).trans (hb.mono (h.QF hS).size),fun _ j hj=>?_,fun a=>(by rw[Qr hi,hS]at a;cases a)⟩;by_cases e:j=i
 ·subst e;rw[Ks];exact hp
 ·rw[Zf e];rw[Qr e]at hj;exact(YA Φ j).mono _ _ _ hb (h.kc hS j hj)
theorem CI.store(h:CI w0 Φ Fin iC iS L x W)(hc:iC≠iS)(hf:Fin (x iC) W'):CI w0 Φ Fin iC iS (Zh L iS) (Qq x iS v) W' :=
 ⟨fun a=>(by rw[V8]at a;cases a),fun a=>(by rw[V8]at a;cases a),fun _=>by rw[Zf hc];exact hf⟩
end
def Qz5(h:Nat)(k:Int)(x y:ByteArray)(c:F):Cd TL:=⟨fun v W=>∃A n C,v = ξ #[ι γ k,σ x,σ y,ς A n C]∧Fs W (Ll h W) (ς A n C) c∧TF W (ς A n C),fun v W W' h hp=>by
 obtain⟨A,n,C,e,hr,ht⟩:=hp;exact⟨A,n,C,e,(hr.keep fun b hb=>h.block b hb.2).more (fun b hb=>⟨hb.1,VE hb.2 h.size⟩),ht.below h⟩⟩
theorem Gw:∀(nps:List (Nd×Value))(i:Nat)(k:Int)(x y:ByteArray)(c:F)(s u:Value),nps[i]?=some (⟨k,x,y,c⟩,s)→
 (((((nps.flatMap VC).set (i*4) (ι γ k)).set (i*4+1) (σ x)).set (i*4+2) (σ y)).set (i*4+3) u)=(nps.set i (⟨k,x,y,c⟩,u)).flatMap VC
 |[],i,k,x,y,c,s,u,h=>by simp at h
 |p::ps,0,k,x,y,c,s,u,h=>by
  simp only[List.getElem?_cons_zero,Option.some.injEq]at h;subst h;simp[VC]
 |p::ps,i+1,k,x,y,c,s,u,h=>by
  have ih:=Gw ps i k x y c s u (by simpa using h);simp only[ZA,List.flatMap_cons];rw[←ih,show(i+1)*4=i*4+4 by omega];simp[VC]
def Xc(zs:List Int)(i:Nat):Int:=(zs.take i).sum
theorem ž(zs:List Int):Xc zs 0=0:=by simp[Xc]
theorem ū{zs:List Int}{i:Nat}{z:Int}(h:zs[i]?=some z):Xc zs (i+1)=Xc zs i+z:=by
 unfold Xc;rw[List.take_add_one,h,List.sum_append];simp
theorem ă{zs:List Int}{m:Int}(h0:0≤m)(h:∀z∈zs,z≤m):∀i,i≤zs.length→Xc zs i≤(i:Int)*m
 |0,_=>by rw[ž];simp
 |i+1,hi=>by
  have e:=QN (show i<zs.length by omega);rw[ū e];have h1:=h _ (List.getElem_mem (show i<zs.length by omega));have h2:=ă h0 h i ω;rw[Int.natCast_add,Int.add_mul];omega
theorem fL(w:World)(k:Int)(x y:ByteArray)(s:Value){W:World}(hW:Below (w.alloc (θ #[ι γ k,σ x,σ y,s] 24)).heap.size (w.alloc (θ #[ι γ k,σ x,σ y,s] 24)) W) :
 W.cell? ⟨w.heap.size,0,none⟩=some (ι γ k)∧W.cell? ⟨w.heap.size,1,none⟩=some (σ x)∧W.cell? ⟨w.heap.size,2,none⟩=some (σ y)∧W.cell? ⟨w.heap.size,3,none⟩=some s:=by
 have h:W.heap[w.heap.size]?=_:=(hW.block w.heap.size ψ).trans (heap_alloc_new w _);refine⟨?_,?_,?_,?_⟩ <;> simp[World.cell?,h]
def Qt7(B:Nat)(X:List QC)(g:Nat)(L:List Nd)(ps zs:List Int)(ks:List (List Nat))(w:World)(e:Ending)(w':World):Prop :=
 e=ρ (.tuple #[])∧(∃(vN vP vS vK:Value)(us:List Value)(nps:List (Nd×Value)),QH w' B (PR g vN vP vS vK nps.length (nps.flatMap VC) ps.length (ps.map iv) zs.length (zs.map iv) us.length us us ks X)∧nps.map (·.1)=L∧
   (∀p∈nps,Fs w' (Ll w.heap.size w') p.2 p.1.c∧TF w' p.2)∧us.length=ks.length)∧Below B w w'
structure IQ(w0:World)(B:Nat)(S:Nat→Prop)(g gN ZO N:Nat)(vP vS vK:Value)(nP:Nat)(cP:List Value)(nS:Nat)(cS:List Value)(nK:Nat)(us:List Value)(ks:List (List Nat))(X:List QC)(SM:List (Nd×Value))(i:Nat)(nps:List (Nd×Value))(W:World):Prop where
 GD:QH W B (PR g (ς (some ⟨gN,0,none⟩) N ZO) vP vS vK N (nps.flatMap VC) nP cP nS cS nK us us ks X)
 fst:nps.map (·.1)=SM.map (·.1)
 done:∀q p,q<i→nps[q]?=some p→Fs W (Ll w0.heap.size W) p.2 p.1.c∧TF W p.2
 todo:∀q,i≤q→nps[q]?=SM[q]?
 grown:w0.grownBy W (some gN)
section
variable {w0 W W':World}{B:Nat}{S:Nat→Prop}{g gN ZO N:Nat}{vP vS vK:Value}{nP:Nat}{cP:List Value}{nS:Nat}{cS:List Value}{nK:Nat}{us:List Value}{ks:List (List Nat)}{X:List QC}{SM nps:List (Nd×Value)}{i:Nat}
theorem IQ.later(h:IQ w0 B S g gN ZO N vP vS vK nP cP nS cS nK us ks X SM i nps W)(hb:Below W.heap.size W W'):IQ w0 B S g gN ZO N vP vS vK nP cP nS cS nK us ks X SM i nps W' :=
 ⟨h.GD.later hb,h.fst,fun q p hq hp=>⟨((h.done q p hq hp).1.keep fun b hb'=>hb.block b hb'.2).more (fun b hb'=>⟨hb'.1,VE hb'.2 hb.size⟩),(h.done q p hq hp).2.below hb⟩,h.todo,
  ⟨hb.os.trans h.grown.os,hb.tape.trans h.grown.tape,hb.output.trans h.grown.output,QW h.grown.size hb.size,fun k hk hne=>(hb.block k (VE hk h.grown.size)).trans (h.grown.block k hk hne)⟩⟩
theorem IQ.put(h:IQ w0 B S g gN ZO N vP vS vK nP cP nS cS nK us ks X SM i nps W)(hg:gN<w0.heap.size){k:Int}{x y:ByteArray}{c:F}{s u:Value}(hi:nps[i]?=some (⟨k,x,y,c⟩,s))(hf:Fs W (Ll w0.heap.size W) u c)(ht:TF W u) :
 IQ w0 B S g gN ZO N vP vS vK nP cP nS cS nK us ks X SM (i+1) (nps.set i (⟨k,x,y,c⟩,u)) ((((W.setCell ⟨gN,i*4,none⟩ (ι γ k)).setCell ⟨gN,i*4+1,none⟩ (σ x)).setCell ⟨gN,i*4+2,none⟩ (σ y)).setCell ⟨gN,i*4+3,none⟩ u):=by
 have hst:=QH.MP (i:=1) h.GD rfl (i*4) (ι γ k) (σ x) (σ y) u;rw[Gw nps i k x y c s u hi]at hst
 have hk:∀b,b≠gN→((((W.setCell ⟨gN,i*4,none⟩ (ι γ k)).setCell ⟨gN,i*4+1,none⟩ (σ x)).setCell ⟨gN,i*4+2,none⟩ (σ y)).setCell ⟨gN,i*4+3,none⟩ u).heap[b]? = W.heap[b]? := fun b hb=>by
  rw[Below.heap_setCell _ _ _ _ hb,Below.heap_setCell _ _ _ _ hb,Below.heap_setCell _ _ _ _ hb,Below.heap_setCell _ _ _ _ hb]
 have htf:∀v,TF W v→TF ((((W.setCell ⟨gN,i*4,none⟩ (ι γ k)).setCell ⟨gN,i*4+1,none⟩ (σ x)).setCell ⟨gN,i*4+2,none⟩ (σ y)).setCell ⟨gN,i*4+3,none⟩ u) v:=fun v hv=>(((hv.set _ _ _).set _ _ _).set _ _ _).set _ _ _
 have hsz:W.heap.size≤((((W.setCell ⟨gN,i*4,none⟩ (ι γ k)).setCell ⟨gN,i*4+1,none⟩ (σ x)).setCell ⟨gN,i*4+2,none⟩ (σ y)).setCell ⟨gN,i*4+3,none⟩ u).heap.size:=ψ
 have hos:((((W.setCell ⟨gN,i*4,none⟩ (ι γ k)).setCell ⟨gN,i*4+1,none⟩ (σ x)).setCell ⟨gN,i*4+2,none⟩ (σ y)).setCell ⟨gN,i*4+3,none⟩ u).os=W.os∧((((W.setCell ⟨gN,i*4,none⟩ (ι γ k)).setCell ⟨gN,i*4+1,none⟩ (σ x)).setCell ⟨gN,i*4+2,none⟩ (σ y)).setCell ⟨gN,i*4+3,none⟩ u).tape=W.tape∧((((W.setCell ⟨gN,i*4,none⟩ (ι γ k)).setCell ⟨gN,i*4+1,none⟩ (σ x)).setCell ⟨gN,i*4+2,none⟩ (σ y)).setCell ⟨gN,i*4+3,none⟩ u).output=W.output:=⟨rfl,rfl,rfl⟩;generalize(((W.setCell ⟨gN,i*4,none⟩ (ι γ k)).setCell ⟨gN,i*4+1,none⟩ (σ x)).setCell ⟨gN,i*4+2,none⟩ (σ y)).setCell ⟨gN,i*4+3,none⟩ u=W4 at *;have fix:∀{v:Value}{c:F},Fs W (Ll w0.heap.size W) v c∧TF W v→Fs W4 (Ll w0.heap.size W4) v c∧TF W4 v:=fun hv =>
  ⟨(hv.1.keep fun b hb=>hk b (fun e=>by have:=hb.1;omega)).more (fun b hb=>⟨hb.1,VE hb.2 hsz⟩),htf _ hv.2⟩
 refine⟨hst.1,?_,fun q p hq hp=>?_,fun q hq=>?_,⟨hos.1.trans h.grown.os,hos.2.1.trans h.grown.tape,hos.2.2.trans h.grown.output,QW h.grown.size hsz,fun b hb hne=>?_⟩⟩
 ·rw[List.map_set];have e:(nps.map (·.1))[i]?=some (⟨k,x,y,c⟩:Nd):=by rw[VP,hi];rfl
  obtain⟨h1,h2⟩:=List.getElem?_eq_some_iff.1 e;rw[←h.fst];show(nps.map (·.1)).set i (⟨k,x,y,c⟩:Nd)=_;rw[←h2,List.set_getElem_self]
 ·rw[List.getElem?_set]at hp;by_cases e:i=q
  ·rw[if_pos e,if_pos (by have:=(List.getElem?_eq_some_iff.1 hi).1;omega)]at hp;injection hp with hp;subst hp;exact fix ⟨hf,ht⟩
  ·rw[if_neg e]at hp;exact fix (h.done q p ω hp)
 ·rw[List.getElem?_set_ne ω];exact h.todo q ω
 ·exact(hk b (fun e=>hne (by rw[e]))).trans (h.grown.block b hb hne)
end
theorem Qr4(w:World)(B:Nat)(S:Nat→Prop)(X:List QC)(g:Nat)(L:List Nd)(ps zs:List Int)(ks:List (List Nat))(h:PS w B S X g L ps zs ks)(hz:∀z∈zs,0≤z∧z≤45001)(kC:∀i,Xc zs i≤4194304)(hl:zs.length≤45001)(gv:1≤L.length)(hL2:L.length≤45001)(hn:∀nd∈L,nd.c.size≤45001)(hS:∀b,S b→b<w.heap.size) :
 Calls Tryz.prog 57 #[π (some ⟨g,0,none⟩)] w (Qt7 B X g L ps zs ks w):=by
 obtain⟨vN,vP,vS,vK,us,nps,hF,hL,VX,KU⟩:=h.all;have hnl:nps.length=L.length:=by rw[←hL,VD]
 obtain⟨gN,ZO,rfl,_,_⟩:=hF.sliceAt (i:=1) rfl ω;obtain⟨aS,G',rfl,_,_⟩:=hF.slice (i:=3) rfl;have hgN:gN<w.heap.size:=(hF.lt (k:=gN) (JK (i:=1) rfl) rfl).2
 have O4:∀b,S b→b<w.heap.size∧b≠gN:=fun b hb=>⟨hS b hb,fun e=>by
  have Mg:B≤gN:=(hF.lt (k:=gN) (JK (i:=1) rfl) rfl).1;rcases h.safe b hb with q|⟨ob,ho⟩
  ·omega
  ·rcases Qzt hF ho with h' |h'
   ·cases h'
   ·exact h' (by rw[e];rfl)⟩
 obtain⟨N,hN⟩:=Mem.QD (nps.length);obtain⟨cN,LF⟩:=Mem.QD (nps.flatMap VC);obtain⟨nP,LB⟩:=Mem.QD (ps.length);obtain⟨nS,Lc⟩:=Mem.QD (zs.length);obtain⟨nK,LX⟩:=Mem.QD (us.length);obtain⟨cP,LD⟩:=Mem.QD (ps.map iv);obtain⟨cS,XE⟩:=Mem.QD (zs.map iv);rw[hN,LB,Lc,LX,LD,XE]at hF;rw[Lc]at hl;obtain⟨⟨q0,q1,q2,q3⟩,z0,z1,z2,z3⟩:=Zr hF (j:=0) rfl;have Mg:B≤gN:=(hF.lt (k:=gN) (JK (i:=1) rfl) rfl).1;have HF:=QA hF;have TS:=QA O4;have QP:=QA VX;have vQ:=QA KU;have HL:=QA hL;have TU:=QA hnl;have aU:=QA LB;have rZ:=QA Lc;have aW:=QA LX;have Ac:=QA LD;have BL:=QA XE;have HN:=QA hN;have FP:1≤N:=ω
 have hN2:N≤45001:=ω
 have HZ:=QA hz;have aR:Hid (∀nd∈L,nd.c.size≤45001):=hn;have Tq:Hid (∀i,Xc zs i≤4194304):=kC;have MJ:=QA hgN;have Rv:=QA Mg;clear h hz kC gv hL2 hn hS hF hL VX KU hnl hgN O4 hN LF LB Lc LX LD XE Mg;go_enter Tryz.func57,Tryz.ntmps57;go_wp2
 go_loopw [2,12] (fun s2 YU wr=>∃(i:Nat)(all:Int),i≤nS∧0≤all∧all≤Xc zs i∧s2=ι γ all∧YU=ι γ (i:Int)∧wr=w) (fun _ s _=>nS-(intOf s).toNat)
 case atStart=>exact⟨0,0,ZR _,Int.le_refl _,by rw[ž];exact Int.le_refl _,rfl,rfl,rfl⟩
 case round =>
  obtain⟨i,all,hi,ha0,ha1,rfl,rfl,rfl⟩:=hrel;by_cases hlt:i<nS
  ·have hlt':(i:Int)<(nS:Int):=ω
   have hi0:(0:Int)≤(i:Int):=ω
   obtain⟨gS,cs',e,_,_⟩:=HF.out.sliceAt (i:=3) rfl ω;injection e with e _ _;subst e;have Oe:i<zs.length:=by rw[rZ.out];exact hlt
   obtain⟨z,eY⟩:=Mem.QD (zs[i]'(Oe));have hzz:=HZ.out z (by rw[←eY];exact List.getElem_mem Oe);have hc:=HF.out.cell (i:=3) rfl (j:=i) (u:=ι γ z) (by rw[←BL.out,VP,QN Oe,eY];rfl);obtain⟨hz1,hz2⟩:=hzz;have hlm:=ū (zs:=zs) (i:=i) (z:=z) (by rw[QN Oe,eY]);have mS:=Tq.out i;have XW:=QA hlt;have Bc:Hid (all+z≤Xc zs (i+1)):=by show _≤_;omega
   have ha5:all≤4194304:=ω
   clear eY Oe hlm mS ha1 hlt;go_wp2
   go_roundw
   case rel=>exact⟨i+1,all+z,by have:=XW.out;omega,ω,Bc.out,rfl,by go_num,trivial⟩
   case measure=>have:=XW.out;simp[intOf];omega
  ·have hlt':¬(i:Int)<(nS:Int):=ω
   have mS:=Tq.out i;have hgt:¬(4194304:Int)<all:=ω
   clear mS ha1 hlt;go_wp2;obtain⟨w0,rfl⟩:∃w0,w0=wr:=⟨_,rfl⟩;have zw:Hid (IQ w0 B S g gN ZO N vP (ς aS nS G') vK nP cP nS cS nK us ks X nps 0 nps w0):=⟨HF.out,rfl,fun q _ hq=>absurd hq (Nat.not_lt_zero q),fun _ _=>rfl,World.grownBy.refl w0 _⟩;clear q0 q1 q2 q3 z0 z1 z2 z3
   go_loopw [27] (fun s27 wr=>∃(i:Nat)(Az:List (Nd×Value)),i≤N∧s27=ι γ (i:Int)∧Hid (IQ w0 B S g gN ZO N vP (ς aS nS G') vK nP cP nS cS nK us ks X nps i Az wr)) (fun s _=>N-(intOf s).toNat)
   case atStart=>exact⟨0,nps,ZR _,rfl,zw.out⟩
   case round =>
    clear zw;obtain⟨i,Az,hi,rfl,HC⟩:=hrel;by_cases hlt:i<N
    ·have hlt':(i:Int)<(N:Int):=ω
     have hi0:(0:Int)≤(i:Int):=ω
     have TJ:i<nps.length:=by rw[HN.out];exact hlt
     obtain⟨⟨⟨k,x,y,c⟩,s⟩,hp⟩:∃p,nps[i]?=some p:=⟨_,QN TJ⟩;have hpi:=(HC.out.todo i (Nat.le_refl _)).trans hp;have hfi:Fs w0 S s c:=QP.out _ (JK hp);obtain⟨As,Cs,rfl,_,_⟩:=hfi.slice;obtain⟨ln,YO⟩:=Mem.QD (c.len);rw[YO]at hpi hfi;obtain⟨v0,v1,v2,v3⟩:=yJ (j:=1) (nps:=Az) HC.out.GD rfl hpi;have hc1:c.size≤45001:=aR.out ⟨k,x,y,c⟩ (by rw[←HL.out];exact List.mem_map.2 ⟨_,JK hp,rfl⟩);have HFW:Hid (Fs wr S (ς As ln Cs) c):=hfi.keep fun b hb=>HC.out.grown.block b (TS.out b hb).1 (fun e=>(TS.out b hb).2 (Option.some.inj e))
     have wD:Hid (∀b,S b→b<wr.heap.size):=fun b hb=>VE (TS.out b hb).1 HC.out.grown.size
     have JF:=Qz wr (θ #[ι γ k,σ x,σ y,ς As ln Cs] 24);have jo:=QA (HC.out.later JF);have KB:=QA JF;have zJ:Hid (∀W,Below (wr.alloc (θ #[ι γ k,σ x,σ y,ς As ln Cs] 24)).heap.size (wr.alloc (θ #[ι γ k,σ x,σ y,ς As ln Cs] 24)) W→W.cell? ⟨wr.heap.size,0,none⟩=some (ι γ k)∧W.cell? ⟨wr.heap.size,1,none⟩=some (σ x)∧W.cell? ⟨wr.heap.size,2,none⟩=some (σ y)∧W.cell? ⟨wr.heap.size,3,none⟩=some (ς As ln Cs)):=fun W hW=>fL wr k x y _ hW
     have HPI:=QA hpi;have XW:=QA hlt;have HC5:=QA hc1;clear hp hpi hfi YO TJ JF hlt;go_wp2;clear v0 v1 v2 v3;obtain⟨gb,hgb⟩:=Mem.QD (wr.heap.size);have Q3k:=QA hgb;rw[hgb]at zJ;obtain⟨w1,hw1⟩:=Mem.QD (wr.alloc (θ #[ι γ k,σ x,σ y,ς As ln Cs] 24));rw[hw1]at jo KB zJ;try rw[hw1]
     try rw[hgb]
     clear hw1 hgb;refine Z3 (CI w1 [Cd.is (π (some ⟨g,0,none⟩)),Cd.is (π (some ⟨g,0,none⟩)),Cd.is (π (some ⟨g,0,none⟩)),Cd.is (ς (some ⟨gN,0,none⟩) N ZO),Cd.is (ι γ (i:Int)),Cd.is (ξ #[ι γ k,σ x,σ y,ς As ln Cs]),Qz5 w0.heap.size k x y c,Cd.is (π (some ⟨gN,i*4,none⟩))] (fun v W=>∃u,IQ w0 B S g gN ZO N vP (ς aS nS G') vK nP cP nS cS nK us ks X nps (i+1) (Az.set i (⟨k,x,y,c⟩,u)) W) 6 8) χ δ χ (fun _=>CI.start _) ?steps ?done
     case steps =>
      intro L xv W hI hcl a ha;simp only[Qi]at ha;simp only[ZC,ZA,QZ,Nat.zero_add,Nat.reduceAdd]at ha;subst ha;refine⟨?s0,?s1,?s2,?s3,?s4,?s5,?s6,?s7,?s8,trivial⟩;all_goals intro hL hd K hK
      all_goals(try simp only[Act.put,ZC,ZA,QZ]at hK)
      case s0=>have hS:=Qh (i:=0) (r:=8) hcl hL χ;have hB:=hI.QF hS;clear hd;exact c28
      case s1=>have hS:=Qh (i:=1) (r:=8) hcl hL χ;have hB:=hI.QF hS;have hx0:xv 0=π (some ⟨g,0,none⟩):=hI.kc hS 0 (hd 0 χ);clear hd;rw[hx0]at hK⊢;exact c28
      case s2=>have hS:=Qh (i:=2) (r:=8) hcl hL χ;have hB:=hI.QF hS;have hx1:xv 1=π (some ⟨g,0,none⟩):=hI.kc hS 1 (hd 1 χ);clear hd;rw[hx1]at hK⊢;exact c28
      case s3=>have hS:=Qh (i:=3) (r:=8) hcl hL χ;have hB:=hI.QF hS;have hx2:xv 2=π (some ⟨g,0,none⟩):=hI.kc hS 2 (hd 2 χ);have hC:=jo.out.later hB;obtain⟨⟨q0,q1,q2,q3⟩,z0,z1,z2,z3⟩:=Zr hC.GD (j:=0) rfl;clear hC;clear hd;rw[hx2]at hK⊢;exact c28
      case s4=>have hS:=Qh (i:=4) (r:=8) hcl hL χ;have hB:=hI.QF hS;clear hd;exact c28
      case s5=>have hS:=Qh (i:=5) (r:=8) hcl hL χ;have hB:=hI.QF hS;obtain⟨m0,m1,m2,m3⟩:=zJ.out W hB;clear hd;exact c28
      case s6 =>
       have hS:=Qh (i:=6) (r:=8) hcl hL χ;have hB:=hI.QF hS;have JB:xv 5=ξ #[ι γ k,σ x,σ y,ς As ln Cs]:=hI.kc hS 5 (hd 5 χ);have hW0:wr.heap.size≤W.heap.size:=QW KB.out.size hB.size;have hfw:Fs W (Lo W.heap.size) (ς As ln Cs) c:=(HFW.out.keep fun b hb=>((hB.mono KB.out.size).block b (wD.out b hb)).trans (KB.out.block b (wD.out b hb))).more fun b hb=>VE (wD.out b hb) hW0
       have Ac:=Ei c.size k x y As ln Cs c W (Nat.le_refl _) (by have:=HC5.out;omega) hfw;have hw0:w0.heap.size≤W.heap.size:=QW HC.out.grown.size hW0;clear hd;rw[JB]at hK⊢;refine(if_pos (by rfl)).mpr ?_;go_simp;go_at_call 56;refine Ac.mono ?_;rintro e W' ⟨hb,Ar,nr,Cr,rfl,XM,htr⟩;exact hK.out _ _ (hI.quiet hS δ hb ⟨Ar,nr,Cr,rfl,XM.more (fun b hb'=>⟨QW hw0 hb'.1,hb'.2⟩),htr⟩)
      case s7 =>
       have hS:=Qh (i:=7) (r:=8) hcl hL χ;have hB:=hI.QF hS;have hx3:xv 3=ς (some ⟨gN,0,none⟩) N ZO:=hI.kc hS 3 (hd 3 χ);have JJ:xv 4=ι γ (i:Int):=hI.kc hS 4 (hd 4 χ);have FA:(i:Int)<(N:Int):=by have:=XW.out;omega
       clear hd;rw[hx3]at hK⊢;rw[JJ]at hK⊢;exact c28
      case s8 =>
       have hS:=hL;have hB:=hI.QF hS;have YX:xv 7=π (some ⟨gN,i*4,none⟩):=hI.kc hS 7 (hd 7 χ);obtain⟨A6,n6,C6,JR,Sy,Sv⟩:∃A n C,xv 6=ξ #[ι γ k,σ x,σ y,ς A n C]∧Fs W (Ll w0.heap.size W) (ς A n C) c∧TF W (ς A n C):=hI.kc hS 6 (hd 6 χ);have hC:=jo.out.later hB;obtain⟨v0,v1,v2,v3⟩:=yJ (j:=1) (nps:=Az) hC.GD rfl HPI.out;have hz:=fun q=>hC.GD.JO (i:=1) rfl (i*4+q)
       obtain⟨z0,z1,z2,z3⟩:=(⟨hz 0,hz 1,hz 2,hz 3⟩:_∧_∧_∧_);simp only[Nat.add_zero]at z0;have hput:=hC.put MJ.out HPI.out Sy Sv;clear hd;rw[YX]at hK⊢;rw[JR]at hK⊢;refine(if_pos (by rfl)).mpr ?_;go_simp;exact hK.out undef _ (hI.store δ ⟨_,hput⟩)
     case done =>
      intro Lq xv W hI hall a ha;obtain⟨u,hC⟩:=hI.fin (hall 8 δ);simp only[Qi]at ha;simp only[ZC,ZA,QZ,Nat.zero_add,Nat.reduceAdd]at ha;subst ha;have UO:=QA hC;clear hI hall hC HC jo;go_wp2
      go_roundw
      case rel=>exact⟨i+1,_,by have:=XW.out;omega,by go_num,UO.out⟩
      case measure=>have:=XW.out;simp[intOf];omega
    ·obtain rfl:N=i:=ω
     have hlt':¬(N:Int)<(N:Int):=ω
     clear hlt;go_wp2
     go_end0
     have hC:=HC.out;have hl:Az.length=N:=by have:=congrArg List.length hC.fst;rwa[VD,VD,HN.out]at this
     refine⟨rfl,⟨ς (some ⟨gN,0,none⟩) N ZO,vP,ς aS nS G',vK,us,Az,?_,hC.fst.trans HL.out,fun p hp=>?_,vQ.out⟩,?_⟩
     ·have:=hC.GD;rw[hl,aU.out,rZ.out,aW.out,Ac.out,BL.out];exact this
     ·obtain⟨q,hq⟩:=List.getElem?_of_mem hp;exact hC.done q p (by have:=(List.getElem?_eq_some_iff.1 hq).1;omega) hq
     ·exact⟨hC.grown.os,hC.grown.tape,hC.grown.output,hC.grown.size,fun b hb=>hC.grown.block b (by have:=Rv.out;have:=MJ.out;omega) (fun e=>by have:=Option.some.inj e;have:=Rv.out;omega)⟩
