import Derived.Test.YtmepekognmlblaaGreatDoorP27
set_option linter.unusedVariables false
open _root_.Nat renaming le_refl→QI,zero_add→ZL
open _root_.List renaming mem_cons_self→XG,mem_cons_of_mem→UN
namespace Go.Proofs.YtmepekognmlblaaGreatDoor
namespace Match
open Tree Shape
def ah(z:Nat→Nat)(x y:Nat):Prop:=z y<z x∨(z x=z y∧x<y)
theorem ah.trans{z:Nat→Nat}{x y u:Nat}(h:ah z x y)(h':ah z y u):ah z x u:=by unfold ah at *;omega
theorem ah.le{z:Nat→Nat}{x y:Nat}(h:ah z x y):z y≤z x:=by unfold ah at *;omega
theorem ah.ne{z:Nat→Nat}{x y:Nat}(h:ah z x y)(e:z x=z y):x<y:=by unfold ah at *;omega
theorem ah.of{z:Nat→Nat}{x y:Nat}(h:z y≤z x)(h':z x=z y→x<y):ah z x y:=by unfold ah;omega
def sw(d:Nat→Nat)(i j:Nat):Nat→Nat:=fun k=>if k=j then d i else if k=i then d j else d k
def SO(z d:Nat→Nat)(a b:Nat):Prop:=∀i j,a≤i→i<j→j<b→ah z (d i) (d j)
def Pm(a b:Nat)(d d':Nat→Nat):Prop:=∃p q:Nat→Nat,(∀k,q (p k)=k)∧(∀k,p (q k)=k)∧(∀k,(k<a∨b≤k)→p k=k)∧∀k,d' k=d (p k)
section
variable {z d d' d'':Nat→Nat}{a b m:Nat}
theorem SO.mono(h:SO z d a b){a' b':Nat}(h1:a≤a')(h2:b'≤b):SO z d a' b':=fun i j hi hj hb=>h i j ω hj ω
theorem SO.congr(h:SO z d a b)(he:∀k,a≤k→k<b→d' k=d k):SO z d' a b:=fun i j hi hj hb=>by
 rw[he i hi ω,he j ω hb];exact h i j hi hj hb
theorem SO.one(z d:Nat→Nat){a b:Nat}(h:b≤a+1):SO z d a b:=fun i j hi hj hb=>ω
theorem Pm.refl(a b:Nat)(d:Nat→Nat):Pm a b d d:=⟨id,id,fun _=>rfl,fun _=>rfl,fun _ _=>rfl,fun _=>rfl⟩
theorem Pm.trans(h:Pm a b d d')(h':Pm a b d' d''):Pm a b d d'':=by
 obtain⟨p,q,h1,h2,h3,h4⟩:=h;obtain⟨p',q',g1,g2,g3,g4⟩:=h';exact⟨fun k=>p (p' k),fun k=>q' (q k),fun k=>by simp only;rw[h1,g1],fun k=>by simp only;rw[g2,h2],fun k hk=>by simp only;rw[g3 k hk,h3 k hk],fun k=>by simp only;rw[g4,h4]⟩
theorem Pm.mono(h:Pm a b d d'){a' b':Nat}(h1:a'≤a)(h2:b≤b'):Pm a' b' d d':=by
 obtain⟨p,q,g1,g2,g3,g4⟩:=h;exact⟨p,q,g1,g2,fun k hk=>g3 k ω,g4⟩
theorem Pm.out(h:Pm a b d d'){k:Nat}(hk:k<a∨b≤k):d' k=d k:=by
 obtain⟨p,q,g1,g2,g3,g4⟩:=h;rw[g4,g3 k hk]
theorem Pm.of(h:Pm a b d d'){k:Nat}(h1:a≤k)(h2:k<b):∃k',a≤k'∧k'<b∧d' k=d k':=by
 obtain⟨p,q,g1,g2,g3,g4⟩:=h
 have:¬(p k<a∨b≤p k):=fun hp=>by
  have h5:=g3 _ hp;have h6:=congrArg q h5;rw[g1,g1]at h6;omega
 exact⟨p k,ω,ω,g4 k⟩
theorem Pm.symm(h:Pm a b d d'):Pm a b d' d:=by
 obtain⟨p,q,g1,g2,g3,g4⟩:=h
 exact⟨q,p,g2,g1,fun k hk=>by
  have:=congrArg q (g3 k hk);rw[g1]at this;exact this.symm,fun k=>by rw[g4,g2]⟩
theorem Pm.sw(d:Nat→Nat){i j:Nat}(h1:a≤i)(h2:i<b)(h3:a≤j)(h4:j<b):Pm a b d (sw d i j):=by
 refine⟨fun k=>if k=j then i else if k=i then j else k,fun k=>if k=j then i else if k=i then j else k,fun k=>?_,fun k=>?_,fun k hk=>?_,fun k=>?_⟩
 ·simp only;split <;> split <;> (try split) <;> (try split) <;> omega
 ·simp only;split <;> split <;> (try split) <;> (try split) <;> omega
 ·simp only;rw[if_neg ω,if_neg ω]
 ·unfold Match.sw;by_cases c1:k=j
  ·rw[if_pos c1];simp only;rw[if_pos c1]
  ·rw[if_neg c1];simp only;rw[if_neg c1];by_cases c2:k=i
   ·rw[if_pos c2,if_pos c2]
   ·rw[if_neg c2,if_neg c2]
def Qx(d:Nat→Nat)(a m b:Nat):Nat→Nat:=fun k=>if a≤k∧k<a+(b-m)then d (m+(k-a))else if a+(b-m)≤k∧k<b then d (k-(b-m))else d k
def YD(d:Nat→Nat)(a b n:Nat):Nat→Nat:=fun k=>if a≤k∧k<a+n then d (b+(k-a))else if b≤k∧k<b+n then d (a+(k-b))else d k
theorem Qqw(d:Nat→Nat)(a b:Nat):YD d a b 0=d:=by
 funext k;unfold YD
 rw[if_neg ω,if_neg ω]
theorem Qqx(d:Nat→Nat){a b n N:Nat}(h:a+N≤b)(hn:n<N):YD d a b (n+1)=sw (YD d a b n) (a+n) (b+n):=by
 funext k;unfold sw YD
 by_cases h1:k=b+n
 ·subst h1;rw[if_neg ω,if_pos ω,if_pos rfl,if_neg ω,if_neg ω]
  congr 1;omega
 ·rw[if_neg h1];by_cases h2:k=a+n
  ·subst h2;rw[if_pos ω,if_pos rfl,if_neg ω,if_neg ω]
   congr 1;omega
  ·rw[if_neg h2];by_cases h3:a≤k∧k<a+n
   ·rw[if_pos ω,if_pos h3]
   ·rw[if_neg ω,if_neg h3];by_cases h4:b≤k∧k<b+n
    ·rw[if_pos ω,if_pos h4]
    ·rw[if_neg ω,if_neg h4]
theorem Qxy(d:Nat→Nat){m i j:Nat}(hi:i≤m)(h:j<i):Qx d (m-i) m (m+j)=Qx (YD d (m-i) m j) (m-i+j) m (m+j):=by
 funext k;unfold Qx YD
 by_cases h1:m-i≤k∧k<m-i+j
 ·rw[if_pos ω,if_neg ω,if_neg ω,if_pos h1]
 ·rw[if_neg ω];by_cases h2:m-i+j≤k∧k<m-i+j+j
  ·rw[if_pos ω,if_pos ω,if_neg ω,if_pos ω]
   congr 1;omega
  ·rw[if_neg (by omega:¬(m-i+j≤k∧k<m-i+j+(m+j-m)))];by_cases h3:m-i+j+j≤k∧k<m+j
   ·rw[if_pos ω,if_pos ω,if_neg ω,if_neg ω]
   ·rw[if_neg ω,if_neg ω,if_neg ω,if_neg ω]
theorem Qxx(d:Nat→Nat){m i j:Nat}(hi:i≤m)(h:i<j):Qx d (m-i) m (m+j)=Qx (YD d (m-i) (m+j-i) i) (m-i) m (m+(j-i)):=by
 funext k;unfold Qx YD
 by_cases h1:m-i≤k∧k<m-i+(j-i)
 ·rw[if_pos ω,if_pos ω];by_cases h4:m-i≤m+(k-(m-i))∧m+(k-(m-i))<m-i+i
  ·omega
  ·rw[if_neg h4,if_neg ω]
 ·rw[if_neg (by omega:¬(m-i≤k∧k<m-i+(m+(j-i)-m)))];by_cases h2:m-i+(j-i)≤k∧k<m-i+j
  ·rw[if_pos ω,if_pos ω,if_pos ω]
   congr 1;omega
  ·rw[if_neg ω];by_cases h3:m-i+j≤k∧k<m+j
   ·rw[if_pos ω,if_neg ω,if_neg ω,if_pos ω]
    congr 1;omega
   ·rw[if_neg ω,if_neg ω,if_neg ω,if_neg ω]
theorem Qxz(d:Nat→Nat){m i:Nat}(hi:i≤m):Qx d (m-i) m (m+i)=YD d (m-i) m i:=by
 funext k;unfold Qx YD
 by_cases h1:m-i≤k∧k<m-i+i
 ·rw[if_pos ω,if_pos h1]
 ·rw[if_neg ω,if_neg h1];by_cases h2:m≤k∧k<m+i
  ·rw[if_pos ω,if_pos h2]
   congr 1;omega
  ·rw[if_neg ω,if_neg h2]
theorem il(d:Nat→Nat){a m b:Nat}(h:a=m∨m=b):Qx d a m b=d:=by
 funext k;unfold Qx
 split
 ·congr 1;omega
 ·split
  ·congr 1;omega
  ·rfl
theorem Qus(d:Nat→Nat){a e:Nat}(h:a≤e):Qx d a (a+1) (e+2)=sw (Qx d a (a+1) (e+1)) e (e+1):=by
 funext k;unfold sw Qx
 by_cases h1:k=e+1
 ·subst h1;rw[if_neg ω,if_pos ω,if_pos rfl,if_neg ω,if_pos ω]
  congr 1;omega
 ·rw[if_neg h1];by_cases h2:k=e
  ·subst h2;rw[if_pos ω,if_pos rfl,if_neg ω,if_neg ω]
   congr 1;omega
  ·rw[if_neg h2];by_cases h3:a≤k∧k<e
   ·rw[if_pos ω,if_pos ω]
   ·rw[if_neg ω,if_neg ω,if_neg ω,if_neg ω]
theorem Qrt(d:Nat→Nat){k m:Nat}(h:k<m):Qx d k m (m+1)=sw (Qx d (k+1) m (m+1)) (k+1) k:=by
 funext i;unfold sw Qx
 by_cases h1:i=k
 ·subst h1;rw[if_pos ω,if_pos rfl,if_pos ω]
  congr 1;omega
 ·rw[if_neg h1];by_cases h2:i=k+1
  ·subst h2;rw[if_neg ω,if_pos ω,if_pos rfl,if_neg ω,if_neg ω]
   congr 1;omega
  ·rw[if_neg h2];by_cases h3:k+1<i∧i≤m
   ·rw[if_neg ω,if_pos ω,if_neg ω,if_pos ω]
   ·rw[if_neg ω,if_neg ω,if_neg ω,if_neg ω]
theorem pN(d:Nat→Nat){a m b:Nat}(h1:a≤m)(h2:m≤b):Pm a b d (Qx d a m b):=by
 refine⟨fun k=>if a≤k∧k<a+(b-m)then m+(k-a)else if a+(b-m)≤k∧k<b then k-(b-m)else k,fun k=>if m≤k∧k<b then a+(k-m)else if a≤k∧k<m then k+(b-m)else k,fun k=>?_,fun k=>?_,fun k hk=>?_,fun k=>?_⟩
 ·simp only;by_cases c1:a≤k∧k<a+(b-m)
  ·rw[if_pos c1,if_pos ω];omega
  ·rw[if_neg c1];by_cases c2:a+(b-m)≤k∧k<b
   ·rw[if_pos c2,if_neg ω,if_pos ω];omega
   ·rw[if_neg c2,if_neg ω,if_neg ω]
 ·simp only;by_cases c1:m≤k∧k<b
  ·rw[if_pos c1,if_pos ω];omega
  ·rw[if_neg c1];by_cases c2:a≤k∧k<m
   ·rw[if_pos c2,if_neg ω,if_pos ω];omega
   ·rw[if_neg c2,if_neg ω,if_neg ω]
 ·simp only;rw[if_neg ω,if_neg ω]
 ·unfold Qx;by_cases c1:a≤k∧k<a+(b-m)
  ·rw[if_pos c1];simp only;rw[if_pos c1]
  ·rw[if_neg c1];simp only;rw[if_neg c1];by_cases c2:a+(b-m)≤k∧k<b
   ·rw[if_pos c2,if_pos c2]
   ·rw[if_neg c2,if_neg c2]
structure DM(z d:Nat→Nat)(a b i j:Nat):Prop where
 so:∀p q,a≤p→p<q→q≤i→p≠j→q≠j→ah z (d p) (d q)
 up:∀q,j<q→q≤i→ah z (d j) (d q)
 st:∀p q,a≤p→p<q→q≤i→z (d p)=z (d q)→d p<d q
 rs:∀p q,a≤p→p<q→i<q→q<b→d p<d q
theorem DM.start{i:Nat}(h:SO z d a i)(hr:∀p q,a≤p→p<q→i≤q→q<b→d p<d q)(hi:i<b):DM z d a b i i :=
 ⟨fun p q h1 h2 h3 h4 h5=>h p q h1 h2 ω,fun q h1 h2=>ω,fun p q h1 h2 h3 h4=>by
  by_cases e:q=i
  ·exact hr p q h1 h2 ω ω
  ·exact(h p q h1 h2 ω).ne h4,fun p q h1 h2 h3 h4=>hr p q h1 h2 ω h4⟩
theorem DM.step{i j:Nat}(h:DM z d a b i (j+1))(hj:a≤j)(hi:j+1≤i)(hl:z (d j)<z (d (j+1))):DM z (sw d (j+1) j) a b i j:=by
 have TI:sw d (j+1) j j=d (j+1):=by unfold sw;rw[if_pos rfl]
 have Tb:sw d (j+1) j (j+1)=d j:=by unfold sw;rw[if_neg ω,if_pos rfl]
 have hk:∀k,k≠j→k≠j+1→sw d (j+1) j k=d k:=fun k h1 h2=>by unfold sw;rw[if_neg h1,if_neg h2]
 refine⟨fun p q h1 h2 h3 h4 h5=>?_,fun q h1 h2=>?_,fun p q h1 h2 h3 h4=>?_,fun p q h1 h2 h3 h4=>?_⟩
 ·by_cases e1:p=j+1
  ·rw[e1,Tb,hk q h5 ω];exact h.so j q hj ω h3 ω ω
  ·rw[hk p h4 e1];by_cases e2:q=j+1
   ·rw[e2,Tb];exact h.so p j h1 ω ω e1 ω
   ·rw[hk q h5 e2];exact h.so p q h1 h2 h3 e1 e2
 ·rw[TI];by_cases e2:q=j+1
  ·rw[e2,Tb];exact .inl hl
  ·rw[hk q ω e2];exact h.up q ω h2
 ·by_cases e1:p=j+1
  ·rw[e1,Tb,hk q ω ω]at h4⊢;exact h.st j q hj ω h3 h4
  ·by_cases e3:p=j
   ·rw[e3,TI]at h4⊢;by_cases e2:q=j+1
    ·rw[e2,Tb]at h4;omega
    ·rw[hk q ω e2]at h4⊢;exact h.st (j+1) q ω ω h3 h4
   ·rw[hk p e3 e1]at h4⊢;by_cases e2:q=j+1
    ·rw[e2,Tb]at h4⊢;exact h.st p j h1 ω ω h4
    ·by_cases e4:q=j
     ·rw[e4,TI]at h4⊢;exact h.st p (j+1) h1 ω ω h4
     ·rw[hk q e4 e2]at h4⊢;exact h.st p q h1 h2 h3 h4
 ·rw[hk q ω ω];by_cases e1:p=j+1
  ·rw[e1,Tb];exact h.rs j q hj ω h3 h4
  ·by_cases e3:p=j
   ·rw[e3,TI];exact h.rs (j+1) q ω ω h3 h4
   ·rw[hk p e3 e1];exact h.rs p q h1 h2 h3 h4
theorem DM.stop{i j:Nat}(h:DM z d a b i j)(hj:a≤j)(hi:j≤i)(hs:j=a∨z (d j)≤z (d (j-1))):SO z d a (i+1):=by
 have key:a<j→ah z (d (j-1)) (d j):=fun hlt=>by
  have hs:z (d j)≤z (d (j-1)):=by rcases hs with rfl|hs <;> omega
  exact .of hs fun e=>h.st (j-1) j ω ω hi e
 intro p q h1 h2 h3;by_cases e1:p=j
 ·rw[e1];exact h.up q ω ω
 ·by_cases e2:q=j
  ·rw[e2];by_cases e3:p=j-1
   ·rw[e3];exact key ω
   ·exact(h.so p (j-1) h1 ω ω e1 ω).trans (key ω)
  ·exact h.so p q h1 h2 ω e1 e2
def XX(z d:Nat→Nat)(a m b:Nat):Prop:=∀i j,a≤i→i<m→m≤j→j<b→z (d i)=z (d j)→d i<d j
theorem Qot{i:Nat}(h1:SO z d (a+1) b)(hx:XX z d a (a+1) b)(hi:a+1≤i)(hib:i≤b)(hl:∀k,a+1≤k→k<i→z (d a)<z (d k))(hr:∀k,i≤k→k<b→z (d k)≤z (d a)):SO z (Qx d a (a+1) i) a b:=by
 have e1:∀k,a≤k→k<i-1→Qx d a (a+1) i k=d (k+1):=fun k h1 h2=>by unfold Qx;rw[if_pos ω];congr 1;omega
 have e2:Qx d a (a+1) i (i-1)=d a:=by unfold Qx;rw[if_neg ω,if_pos ω];congr 1;omega
 have e3:∀k,i≤k→Qx d a (a+1) i k=d k:=fun k h1=>by unfold Qx;rw[if_neg ω,if_neg ω]
 intro p q g1 g2 g3;by_cases c1:q<i-1
 ·rw[e1 p g1 ω,e1 q ω c1];exact h1 _ _ ω ω ω
 ·by_cases c2:q=i-1
  ·rw[c2,e2,e1 p g1 ω];exact .inl (hl _ ω ω)
  ·rw[e3 q ω];by_cases c3:p<i-1
   ·rw[e1 p g1 c3];exact h1 _ _ ω ω ω
   ·by_cases c4:p=i-1
    ·rw[c4,e2];exact .of (hr q ω g3) fun e=>hx a q ω ω ω g3 e
    ·rw[e3 p ω];exact h1 _ _ ω ω ω
theorem Qsa{i:Nat}(h1:SO z d a m)(hx:XX z d a m (m+1))(hi:a≤i)(him:i≤m)(hl:∀k,a≤k→k<i→z (d m)≤z (d k))(hr:∀k,i≤k→k<m→z (d k)<z (d m)):SO z (Qx d i m (m+1)) a (m+1):=by
 have e1:∀k,i<k→k≤m→Qx d i m (m+1) k=d (k-1):=fun k h1 h2=>by unfold Qx;rw[if_neg ω,if_pos ω];congr 1;omega
 have e2:Qx d i m (m+1) i=d m:=by unfold Qx;rw[if_pos ω];congr 1;omega
 have e3:∀k,k<i→Qx d i m (m+1) k=d k:=fun k h1=>by unfold Qx;rw[if_neg ω,if_neg ω]
 intro p q g1 g2 g3;by_cases c1:q<i
 ·rw[e3 p ω,e3 q c1];exact h1 _ _ ω ω ω
 ·by_cases c2:q=i
  ·rw[c2,e2,e3 p ω];exact .of (hl p g1 ω) fun e=>hx p m g1 ω ω ω e
  ·rw[e1 q ω ω];by_cases c3:p<i
   ·rw[e3 p c3];exact h1 _ _ ω ω ω
   ·by_cases c4:p=i
    ·rw[c4,e2];exact .inl (hr _ ω ω)
    ·rw[e1 p ω ω];exact h1 _ _ ω ω ω
structure VZ(z d:Nat→Nat)(a m b s e:Nat):Prop where
 Am:a≤s
 sm:s≤m
 me:m≤e
 eb:e≤b
 lo:SO z d a m
 hi:SO z d m b
 x:XX z d a m b
 l:∀c y,a≤c→c<s→e≤y→y<b→ah z (d c) (d y)
 r:∀u y,m≤u→u<e→s≤y→y<m→ah z (d u) (d y)
section
variable {s e:Nat}
theorem VZ.pj(h:VZ z d a m b s e){k:Nat}(hk:k<s):Qx d s m e k=d k:=by
 unfold Qx;rw[if_neg ω,if_neg ω]
theorem VZ.pg(h:VZ z d a m b s e){k:Nat}(h1:s≤k)(h2:k<s+(e-m)):Qx d s m e k=d (m+(k-s)):=by
 unfold Qx;rw[if_pos ⟨h1,h2⟩]
theorem VZ.yf(h:VZ z d a m b s e){k:Nat}(h1:s+(e-m)≤k)(h2:k<e):Qx d s m e k=d (k-(e-m)):=by
 unfold Qx;rw[if_neg ω,if_pos ⟨h1,h2⟩]
theorem VZ.ye(h:VZ z d a m b s e){k:Nat}(h1:e≤k):Qx d s m e k=d k:=by
 have:=h.sm;have:=h.me;unfold Qx;rw[if_neg ω,if_neg ω]
theorem VZ.jt(h:VZ z d a m b s e):SO z (Qx d s m e) a s:=fun i j h1 h2 h3=>by
 have:=h.sm;rw[h.pj ω,h.pj h3];exact h.lo i j h1 h2 ω
theorem VZ.Ah(h:VZ z d a m b s e):SO z (Qx d s m e) s (s+(e-m)):=fun i j h1 h2 h3=>by
 have:=h.eb;rw[h.pg h1 ω,h.pg ω h3];exact h.hi _ _ ω ω ω
theorem VZ.so3(h:VZ z d a m b s e):SO z (Qx d s m e) (s+(e-m)) e:=fun i j h1 h2 h3=>by
 have:=h.Am;have:=h.sm;have:=h.me;rw[h.yf h1 ω,h.yf ω h3];exact h.lo _ _ ω ω ω
theorem VZ.so4(h:VZ z d a m b s e):SO z (Qx d s m e) e b:=fun i j h1 h2 h3=>by
 have:=h.me;rw[h.ye h1,h.ye ω];exact h.hi _ _ ω h2 h3
theorem VZ.x1(h:VZ z d a m b s e):XX z (Qx d s m e) a s (s+(e-m)):=fun i j h1 h2 h3 h4 he=>by
 have:=h.sm;have:=h.me;have:=h.eb;rw[h.pj h2,h.pg h3 h4]at he⊢;exact h.x _ _ h1 ω ω ω he
theorem VZ.x2(h:VZ z d a m b s e):XX z (Qx d s m e) (s+(e-m)) e b:=fun i j h1 h2 h3 h4 he=>by
 have:=h.Am;have:=h.sm;have:=h.me;rw[h.yf h1 h2,h.ye h3]at he⊢;exact h.x _ _ ω ω ω h4 he
theorem VZ.all(h:VZ z d a m b s e){i j:Nat}(h1:a≤i)(h2:i<s+(e-m))(h3:s+(e-m)≤j)(h4:j<b):ah z (Qx d s m e i) (Qx d s m e j):=by
 have:=h.Am;have:=h.sm;have:=h.me;have:=h.eb;by_cases c1:i<s
 ·rw[h.pj c1];by_cases c2:j<e
  ·rw[h.yf h3 c2];exact h.lo _ _ h1 ω ω
  ·rw[h.ye ω];exact h.l _ _ h1 c1 ω h4
 ·rw[h.pg ω h2];by_cases c2:j<e
  ·rw[h.yf h3 c2];exact h.r _ _ ω ω ω ω
  ·rw[h.ye ω];exact h.hi _ _ ω ω h4
theorem VZ.done(h:VZ z d a m b s e){f g:Nat→Nat}(h1:Pm a (s+(e-m)) (Qx d s m e) f)(h2:SO z f a (s+(e-m)))(h3:Pm (s+(e-m)) b f g)(h4:SO z g (s+(e-m)) b):SO z g a b∧Pm a b d g:=by
 have:=h.Am;have:=h.sm;have:=h.me;have:=h.eb
 constructor
 ·intro i j g1 g2 g3;by_cases c1:j<s+(e-m)
  ·rw[h3.out (.inl ω),h3.out (.inl c1)];exact h2 i j g1 g2 c1
  ·by_cases c2:i<s+(e-m)
   ·rw[h3.out (.inl c2)];obtain⟨i',q1,q2,q3⟩:=h1.of g1 c2;obtain⟨j',r1,r2,r3⟩:=h3.of (k:=j) ω g3;rw[q3,r3,h1.out (.inr r1)];exact h.all q1 q2 r1 r2
   ·exact h4 i j ω g2 g3
 ·refine((pN d h.sm h.me).mono h.Am h.eb).trans ((h1.mono (QI _) ω).trans (h3.mono ω (QI _)))
end
theorem Qy9{mid n s0 r0 s:Nat}(hab:a<m)(hmb:m<b)(hmid:mid=(a+b)/2)(hn:n=mid+m)(hs0:s0=if m>mid then n-b else a)(VN:r0=if m>mid then mid else m)
 (h1:s0≤s) (h2:s≤r0) (lo:SO z d a m) (hi:SO z d m b) (x:XX z d a m b)
 (hl:∀c,s0≤c→c<s→z (d (n-1-c))≤z (d c)) (hr:∀c,s≤c→c<r0→z (d c)<z (d (n-1-c))):VZ z d a m b s (n-s)∧s+(n-s-m)=mid:=by
 by_cases hm:m>mid
 ·rw[if_pos hm]at hs0 VN;refine⟨⟨ω,ω,ω,ω,lo,hi,x,fun c y g1 g2 g3 g4=>?_,fun u y g1 g2 g3 g4=>?_⟩,ω⟩
  ·have h5:=hl (s-1) ω ω;rw[show n-1-(s-1)=n-s by omega]at h5;have h6:z (d (s-1))≤z (d c):=by
    by_cases e:c=s-1
    ·exact Nat.le_of_eq (by rw[e])
    ·exact(lo c (s-1) g1 ω ω).le
   have h7:z (d y)≤z (d (n-s)):=by
    by_cases e:y=n-s
    ·exact Nat.le_of_eq (by rw[e])
    ·exact(hi (n-s) y ω ω g4).le
   exact .of ω fun e=>x c y g1 ω ω g4 e
  ·by_cases e0:s=r0
   ·omega
   ·have h5:=hr s ω ω;have h6:z (d y)≤z (d s):=by
     by_cases e:y=s
     ·exact Nat.le_of_eq (by rw[e])
     ·exact(lo s y ω ω g4).le
    have h7:z (d (n-1-s))≤z (d u):=by
     by_cases e:u=n-1-s
     ·exact Nat.le_of_eq (by rw[e])
     ·exact(hi u (n-1-s) g1 ω ω).le
    exact .inl ω
 ·rw[if_neg hm]at hs0 VN;refine⟨⟨ω,ω,ω,ω,lo,hi,x,fun c y g1 g2 g3 g4=>?_,fun u y g1 g2 g3 g4=>?_⟩,ω⟩
  ·have h5:=hl (s-1) ω ω;rw[show n-1-(s-1)=n-s by omega]at h5;have h6:z (d (s-1))≤z (d c):=by
    by_cases e:c=s-1
    ·exact Nat.le_of_eq (by rw[e])
    ·exact(lo c (s-1) g1 ω ω).le
   have h7:z (d y)≤z (d (n-s)):=by
    by_cases e:y=n-s
    ·exact Nat.le_of_eq (by rw[e])
    ·exact(hi (n-s) y ω ω g4).le
   exact .of ω fun e=>x c y g1 ω ω g4 e
  ·by_cases e0:s=r0
   ·omega
   ·have h5:=hr s ω ω;have h6:z (d y)≤z (d s):=by
     by_cases e:y=s
     ·exact Nat.le_of_eq (by rw[e])
     ·exact(lo s y ω ω g4).le
    have h7:z (d (n-1-s))≤z (d u):=by
     by_cases e:u=n-1-s
     ·exact Nat.le_of_eq (by rw[e])
     ·exact(hi u (n-1-s) g1 ω ω).le
    exact .inl ω
theorem Qwn{mid n s0 r0 s c:Nat}(hab:a<m)(hmb:m<b)(hmid:mid=(a+b)/2)(hn:n=mid+m)(hs0:s0=if m>mid then n-b else a)(VN:r0=if m>mid then mid else m)
 (lo:SO z d a m) (hi:SO z d m b) (h1:s0≤c) (h2:c<r0) (hc:z (d (n-1-c))≤z (d c)):∀k,s0≤k→k<c+1→z (d (n-1-k))≤z (d k):=by
 intro k g1 g2;by_cases e:k=c
 ·rw[e];exact hc
 ·have hm:a≤k∧c<m∧m≤n-1-c∧n-1-k<b:=by
   by_cases hm:m>mid
   ·rw[if_pos hm]at hs0 VN;omega
   ·rw[if_neg hm]at hs0 VN;omega
  have h5:=(lo k c hm.1 ω hm.2.1).le;have h6:=(hi (n-1-c) (n-1-k) hm.2.2.1 ω hm.2.2.2).le;omega
theorem Qtr{mid n s0 r0 s c:Nat}(hab:a<m)(hmb:m<b)(hmid:mid=(a+b)/2)(hn:n=mid+m)(hs0:s0=if m>mid then n-b else a)(VN:r0=if m>mid then mid else m)
 (lo:SO z d a m) (hi:SO z d m b) (h1:s0≤c) (h2:c<r0) (hc:z (d c)<z (d (n-1-c))):∀k,c≤k→k<r0→z (d k)<z (d (n-1-k)):=by
 intro k g1 g2;by_cases e:k=c
 ·rw[e];exact hc
 ·have hm:a≤c∧k<m∧m≤n-1-k∧n-1-c<b:=by
   by_cases hm:m>mid
   ·rw[if_pos hm]at hs0 VN;omega
   ·rw[if_neg hm]at hs0 VN;omega
  have h5:=(lo c k hm.1 ω hm.2.1).le;have h6:=(hi (n-1-k) (n-1-c) hm.2.2.1 ω hm.2.2.2).le;omega
def qw(d:Nat→Nat)(n c:Nat):Prop:=∀i j,i<c→c≤j→j<n→d i<d j
theorem qw.keep{n c:Nat}(h:qw d n c)(hp:Pm a b d d')(hb:b≤n)(hc:c≤a∨b≤c):qw d' n c:=by
 intro i j h1 h2 h3;have hi:∃i',i'<c∧d' i=d i':=by
  by_cases c1:i<a∨b≤i
  ·exact⟨i,h1,hp.out c1⟩
  ·obtain⟨k,q1,q2,q3⟩:=hp.of (k:=i) ω ω;exact⟨k,ω,q3⟩
 have hj:∃j',c≤j'∧j'<n∧d' j=d j':=by
  by_cases c1:j<a∨b≤j
  ·exact⟨j,h2,h3,hp.out c1⟩
  ·obtain⟨k,q1,q2,q3⟩:=hp.of (k:=j) ω ω;exact⟨k,ω,ω,q3⟩
 obtain⟨i',q1,q2⟩:=hi;obtain⟨j',r1,r2,r3⟩:=hj;rw[q2,r3];exact h i' j' q1 r1 r2
theorem SO.keep{u v:Nat}(h:SO z d u v)(hp:Pm a b d d')(hc:v≤a∨b≤u):SO z d' u v:=h.congr fun k h1 h2=>hp.out ω
structure Bx(z d:Nat→Nat)(n t:Nat):Prop where
 so:∀u,SO z d (u*t) (min (u*t+t) n)
 cut:∀u,qw d n (u*t)
structure Ins(z d:Nat→Nat)(n t s:Nat):Prop where
 so:∀u,u<s→SO z d (u*t) (u*t+t)
 cut:∀u,qw d n (u*t)
 BV:∀i j,i<j→s*t≤j→j<n→d i<d j
theorem Ins.zero{n t:Nat}(h:∀i j,i<j→j<n→d i<d j):Ins z d n t 0:=⟨fun u hu=>ω,fun u i j h1 h2 h3=>h i j ω h3,fun i j h1 _ h3=>h i j h1 h3⟩
theorem Ins.step{n t s:Nat}(h:Ins z d n t s)(hb:s*t+t≤n)(hp:Pm (s*t) (s*t+t) d d')(ho:SO z d' (s*t) (s*t+t)):Ins z d' n t (s+1):=by
 have hm:∀u,u<s→u*t+t≤s*t:=fun u hu=>by
  have:=Nat.mul_le_mul_right t (show u+1≤s from hu);rw[Nat.succ_mul]at this;exact this
 have hm':∀u,s<u→s*t+t≤u*t:=fun u hu=>by
  have:=Nat.mul_le_mul_right t (show s+1≤u from hu);rw[Nat.succ_mul]at this;exact this
 refine⟨fun u hu=>?_,fun u=>(h.cut u).keep hp hb ?_,fun i j h1 h2 h3=>?_⟩
 ·by_cases e:u=s
  ·rw[e];exact ho
  ·exact(h.so u ω).keep hp (.inl (hm u ω))
 ·by_cases e:u≤s
  ·left
   exact Nat.mul_le_mul_right t e
  ·right;exact hm' u ω
 ·rw[Nat.succ_mul]at h2;rw[hp.out (k:=j) (.inr h2)];by_cases c1:i<s*t∨s*t+t≤i
  ·rw[hp.out c1];exact h.BV i j h1 ω h3
  ·obtain⟨k,q1,q2,q3⟩:=hp.of (k:=i) ω ω;rw[q3];exact h.BV k j ω ω h3
theorem Ins.done{n t s:Nat}(h:Ins z d n t s)(hb:n<s*t+t)(hs:s*t≤n)(hp:Pm (s*t) n d d')(ho:SO z d' (s*t) n):Bx z d' n t:=by
 have hm:∀u,u<s→u*t+t≤s*t:=fun u hu=>by
  have:=Nat.mul_le_mul_right t (show u+1≤s from hu);rw[Nat.succ_mul]at this;exact this
 have hm':∀u,s<u→s*t+t≤u*t:=fun u hu=>by
  have:=Nat.mul_le_mul_right t (show s+1≤u from hu);rw[Nat.succ_mul]at this;exact this
 refine⟨fun u=>?_,fun u=>(h.cut u).keep hp (QI _) ?_⟩
 ·by_cases e:u=s
  ·rw[e];exact ho.mono (QI _) ω
  ·by_cases e':u<s
   ·exact((h.so u e').keep hp (.inl (hm u e'))).mono (QI _) ω
   ·have:=hm' u ω;exact .one _ _ ω
 ·by_cases e:u≤s
  ·left;exact Nat.mul_le_mul_right t e
  ·right;have:=hm' u ω;omega
structure NK(z d:Nat→Nat)(n t s:Nat):Prop where
 jt:∀u,u<s→SO z d (u*(2*t)) (u*(2*t)+2*t)
 Ö:∀u,qw d n (u*(2*t))
 Ah:∀v,SO z d (s*(2*t)+v*t) (min (s*(2*t)+v*t+t) n)
 Õ:∀v,qw d n (s*(2*t)+v*t)
theorem Bx.mrg{n t:Nat}(h:Bx z d n t):NK z d n t 0 :=
 ⟨fun u hu=>ω,fun u=>by rw[←Nat.mul_assoc];exact h.cut _,fun v=>by rw[Nat.zero_mul,ZL];exact h.so v,fun v=>by rw[Nat.zero_mul,ZL];exact h.cut v⟩
theorem NK.pre{n t s:Nat}(h:NK z d n t s){b:Nat}(h1:s*(2*t)+t≤b)(h2:b≤s*(2*t)+2*t)(h3:b≤n):SO z d (s*(2*t)) (s*(2*t)+t)∧SO z d (s*(2*t)+t) b∧XX z d (s*(2*t)) (s*(2*t)+t) b:=by
 have a0:=h.Ah 0;have a1:=h.Ah 1;have a2:=h.Õ 1;rw[Nat.zero_mul,Nat.add_zero]at a0;rw[Nat.one_mul]at a1 a2;exact⟨a0.mono (QI _) ω,a1.mono (QI _) ω,fun i j g1 g2 g3 g4 _=>a2 i j g2 g3 ω⟩
theorem NK.step{n t s:Nat}(h:NK z d n t s)(hb:s*(2*t)+2*t≤n)(hp:Pm (s*(2*t)) (s*(2*t)+2*t) d d')(ho:SO z d' (s*(2*t)) (s*(2*t)+2*t)):NK z d' n t (s+1):=by
 have hm:∀u,u<s→u*(2*t)+2*t≤s*(2*t):=fun u hu=>by
  have:=Nat.mul_le_mul_right (2*t) (show u+1≤s from hu);rw[Nat.succ_mul]at this;exact this
 have hm':∀u,s<u→s*(2*t)+2*t≤u*(2*t):=fun u hu=>by
  have:=Nat.mul_le_mul_right (2*t) (show s+1≤u from hu);rw[Nat.succ_mul]at this;exact this
 have hv:∀v,(s+1)*(2*t)+v*t=s*(2*t)+(v+2)*t:=fun v=>by rw[Nat.succ_mul,Nat.add_mul];omega
 refine⟨fun u hu=>?_,fun u=>(h.Ö u).keep hp hb ?_,fun v=>?_,fun v=>?_⟩
 ·by_cases e:u=s
  ·rw[e];exact ho
  ·exact(h.jt u ω).keep hp (.inl (hm u ω))
 ·by_cases e:u≤s
  ·left;exact Nat.mul_le_mul_right _ e
  ·right;exact hm' u ω
 ·rw[hv];exact(h.Ah (v+2)).keep hp (.inr (by rw[Nat.add_mul];omega))
 ·rw[hv];exact(h.Õ (v+2)).keep hp hb (.inr (by rw[Nat.add_mul];omega))
theorem NK.done{n t s:Nat}(h:NK z d n t s)(hb:n<s*(2*t)+2*t)(hs:s*(2*t)≤n)(hp:Pm (s*(2*t)) n d d')(ho:SO z d' (s*(2*t)) n):Bx z d' n (2*t):=by
 have hm:∀u,u<s→u*(2*t)+2*t≤s*(2*t):=fun u hu=>by
  have:=Nat.mul_le_mul_right (2*t) (show u+1≤s from hu);rw[Nat.succ_mul]at this;exact this
 have hm':∀u,s<u→s*(2*t)+2*t≤u*(2*t):=fun u hu=>by
  have:=Nat.mul_le_mul_right (2*t) (show s+1≤u from hu);rw[Nat.succ_mul]at this;exact this
 refine⟨fun u=>?_,fun u=>(h.Ö u).keep hp (QI _) ?_⟩
 ·by_cases e:u=s
  ·rw[e];exact ho.mono (QI _) ω
  ·by_cases e':u<s
   ·exact((h.jt u e').keep hp (.inl (hm u e'))).mono (QI _) ω
   ·have:=hm' u ω;exact .one _ _ ω
 ·by_cases e:u≤s
  ·left;exact Nat.mul_le_mul_right _ e
  ·right;have:=hm' u ω;omega
theorem NK.last{n t s:Nat}(h:NK z d n t s)(hb:n≤s*(2*t)+t):SO z d (s*(2*t)) n:=by
 have a0:=h.Ah 0;rw[Nat.zero_mul,Nat.add_zero]at a0;exact a0.mono (QI _) ω
theorem Bx.all{n t:Nat}(h:Bx z d n t)(hn:n≤t):SO z d 0 n:=by
 have:=h.so 0;rw[Nat.zero_mul,ZL]at this;exact this.mono (QI _) ω
end
theorem Qec{R:Nat→Nat→Prop}(hR:∀x y,R x y→¬R y x):∀{l l':List Nat},(∀x,x∈l↔x∈l')→l.Pairwise R→l'.Pairwise R→l=l'
 |[],[],_,_,_=>rfl
 |[],y::t,hm,_,_=>by have:=(hm y).2 (XG ..);cases this
 |x::r,[],hm,_,_=>by have:=(hm x).1 (XG ..);cases this
 |x::r,y::t,hm,h1,h2=>by
  have a1:=List.pairwise_cons.1 h1;have a2:=List.pairwise_cons.1 h2;have hi:∀x,¬R x x:=fun x h=>hR x x h h
  have e:x=y:=by
   rcases List.mem_cons.1 ((hm x).1 (XG ..))with e|m1
   ·exact e
   ·rcases List.mem_cons.1 ((hm y).2 (XG ..))with e|m2
    ·exact e.symm
    ·exact absurd (a1.1 y m2) (hR _ _ (a2.1 x m1))
  subst e;rw[Qec hR (fun u=>?_) a1.2 a2.2]
  constructor
  ·intro hu;rcases List.mem_cons.1 ((hm u).1 (UN _ hu))with e|h
   ·exact absurd (a1.1 u hu) (by rw[e];exact hi x)
   ·exact h
  ·intro hu;rcases List.mem_cons.1 ((hm u).2 (UN _ hu))with e|h
   ·exact absurd (a2.1 u hu) (by rw[e];exact hi x)
   ·exact h
theorem Quk(s:Sd){l:List Nat}(hl:l.Pairwise (·<·)){d d':Nat→Nat}(he:l=(List.range l.length).map d)(hp:Pm 0 l.length d d')(hs:SO s.sz d' 0 l.length):(List.range l.length).map d'=J7 s l:=by
 refine Qec (Ql6 s) (fun x=>?_) ?_ (iK s l hl).2
 ·rw[(iK s l hl).1.mem_iff]
  constructor
  ·intro hx;obtain⟨i,hi,rfl⟩:=List.mem_map.1 hx;obtain⟨k,_,h2,h3⟩:=hp.of (k:=i) ω (List.mem_range.1 hi);rw[h3,he];exact List.mem_map.2 ⟨k,List.mem_range.2 h2,rfl⟩
  ·intro hx;rw[he]at hx;obtain⟨i,hi,rfl⟩:=List.mem_map.1 hx;obtain⟨k,_,h2,h3⟩:=hp.symm.of (k:=i) ω (List.mem_range.1 hi);rw[h3];exact List.mem_map.2 ⟨k,List.mem_range.2 h2,rfl⟩
 ·rw[List.pairwise_map];refine List.Pairwise.imp_of_mem ?_ List.pairwise_lt_range;intro i j hi hj hij;have:=hs i j ω hij (List.mem_range.1 hj);unfold ah at this;unfold ahead;simp only[Bool.or_eq_true,Bool.and_eq_true,decide_eq_true_eq];omega
