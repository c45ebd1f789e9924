import Derived.Test.YtmepekognmlblaaGreatDoorP17
set_option linter.unusedVariables false
open Go.RowKit
open _root_.List renaming getElem?_eq_getElem→QN,getD_eq_getElem?_getD→QX,mem_of_getElem?→JK,getElem?_cons_zero→Ib,mem_cons_self→XG,mem_cons_of_mem→UN,mem_cons→Tg
open Go.Value renaming slice→ς
open Go.Obj renaming cells→θ
namespace Go.Proofs.YtmepekognmlblaaGreatDoor
namespace Match
open Tree Shape
section
variable {a b:Sd}{M M' DK:St}{xs ys xs' ys':List Nat}{x y:Nat}
/-- Kids of two partners,in order. -/
def Rows(a b:Sd)(M:St)(xs ys:List Nat):Prop:=∃p q,xs.Sublist (a.kid p)∧ys.Sublist (b.kid q)∧QQ M.1 p=false∧QQ M.2 q=false
/-- What a call that pairs trees of these rows leaves. -/
structure YS(a b:Sd)(M M':St)(xs ys:List Nat):Prop where
 inv:Inv a b M'
 ext:Ext M M'
 o1:∀z,(∀x∈xs,¬(x≤z∧z<x+a.sz x))→M'.1[z]?=M.1[z]?
 o2:∀z,(∀y∈ys,¬(y≤z∧z<y+b.sz y))→M'.2[z]?=M.2[z]?
theorem YS.refl(h:Inv a b M):YS a b M M xs ys:=⟨h,Ext.refl _,fun _ _=>rfl,fun _ _=>rfl⟩
theorem YS.trans(h:YS a b M M' xs ys)(h':YS a b M' DK xs ys):YS a b M DK xs ys :=
 ⟨h'.inv,h.ext.trans h'.ext,fun z hz=>(h'.o1 z hz).trans (h.o1 z hz),fun z hz=>(h'.o2 z hz).trans (h.o2 z hz)⟩
theorem YS.more(h:YS a b M M' xs ys)(h1:∀x∈xs,x∈xs')(h2:∀y∈ys,y∈ys'):YS a b M M' xs' ys' :=
 ⟨h.inv,h.ext,fun z hz=>h.o1 z fun x hx=>hz x (h1 x hx),fun z hz=>h.o2 z fun y hy=>hz y (h2 y hy)⟩
theorem Ext.Ox(h:Inv a b M)(he:Ext M M'){p:Nat}(hp:p<a.n)(hf:QQ M.1 p=false):QQ M'.1 p=false:=by
 obtain⟨y,hy⟩:=h.part.Rw hp hf;exact(he.1 _ _ hy).free
theorem Ext.Ow(h:Inv a b M)(he:Ext M M'){p:Nat}(hp:p<b.n)(hf:QQ M.2 p=false):QQ M'.2 p=false:=by
 obtain⟨y,hy⟩:=h.part.js hp hf;exact(he.2 _ _ hy).free
theorem RZ{L:List Int}{x:Nat}(h:L.length≤x):QQ L x=false:=by
 unfold QQ;rw[List.getD_eq_getElem?_getD,List.getElem?_eq_none h];rfl
theorem Rows.sub(h:Rows a b M xs ys)(h1:xs'.Sublist xs)(h2:ys'.Sublist ys):Rows a b M xs' ys':=by
 obtain⟨p,q,e1,e2,e3,e4⟩:=h;exact⟨p,q,h1.trans e1,h2.trans e2,e3,e4⟩
theorem Rows.ext(hi:Inv a b M)(h:Rows a b M xs ys)(he:Ext M M')(hi':Inv a b M'):Rows a b M' xs ys:=by
 obtain⟨p,q,e1,e2,e3,e4⟩:=h;refine⟨p,q,e1,e2,?_,?_⟩
 ·rcases Nat.lt_or_ge p a.n with hp|hp
  ·exact he.Ox hi hp e3
  ·exact RZ (by rw[hi'.part.l1];exact hp)
 ·rcases Nat.lt_or_ge q b.n with hp|hp
  ·exact he.Ow hi hp e4
  ·exact RZ (by rw[hi'.part.l2];exact hp)
theorem Rows.lt(h:Rows a b M xs ys):(∀x∈xs,x<a.n)∧(∀y∈ys,y<b.n):=by
 obtain⟨p,q,e1,e2,_⟩:=h;exact⟨fun x hx=>(Sd.VS (Sd.KE (e1.subset hx)) (e1.subset hx)).2.2,fun y hy=>(Sd.VS (Sd.KE (e2.subset hy)) (e2.subset hy)).2.2⟩
theorem Rows.apart(h:Rows a b M xs ys):(xs.Pairwise fun q q'=>q+a.sz q≤q')∧(ys.Pairwise fun q q'=>q+b.sz q≤q'):=by
 obtain⟨p,q,e1,e2,_⟩:=h;exact⟨(a.JT p).sublist e1,(b.JT q).sublist e2⟩
theorem Rows.step(h:Rows a b M xs ys)(hx:x∈xs)(hy:y∈ys)(f1:QQ M.1 x=true)(f2:QQ M.2 y=true)(hk:(a.at_ x).k=(b.at_ y).k):XN a b M x y:=by
 have hl:=h.lt;obtain⟨p,q,e1,e2,e3,e4⟩:=h;refine .inr ⟨hl.1 x hx,hl.2 y hy,hk,f1,f2,fun p' h'=>?_,fun q' h'=>?_⟩
 ·rwa[Sd.XK h' (e1.subset hx)]
 ·rwa[Sd.XK h' (e2.subset hy)]
theorem ET(hn:ZM a b)(h:Inv a b M)(hx:x∈xs)(hy:y∈ys)(hs:XN a b M x y):YS a b M (QK a b M x y) xs ys:=by
 obtain⟨h1,h2,_,_,_,h3,h4⟩:=XH hn h hs;exact⟨h1,h2,fun z hz=>h3 z (hz x hx),fun z hz=>h4 z (hz y hy)⟩
theorem Rx(h:0<near a b M x y):QQ M.1 x=true∧QQ M.2 y=true∧(a.at_ x).k=(b.at_ y).k:=by
 unfold near at h;by_cases e:(!QQ M.1 x||(!QQ M.2 y || !((a.at_ x).k==(b.at_ y).k)))=true
 ·rw[if_pos e]at h;omega
 ·simp only[Bool.or_eq_true,Bool.not_eq_true',not_or,Bool.not_eq_false,beq_iff_eq]at e;exact e
theorem Ry(hn:ZM a b)(h:Inv a b M)(hr:Rows a b M xs ys)(hx:x∈xs)(hy:y∈ys)(hw:0<near a b M x y):YS a b M (QK a b M x y) xs ys:=by
 obtain⟨f1,f2,hk⟩:=Rx hw;exact ET hn h hx hy (hr.step hx hy f1 f2 hk)
theorem Pg(hn:ZM a b):∀(M:St)(xs ys:List Nat),Inv a b M→Rows a b M xs ys→YS a b M (front a b M xs ys).1 xs ys∧(front a b M xs ys).2.1.Sublist xs∧(front a b M xs ys).2.2.Sublist ys
 |M,[],ys,h,_=>by unfold front;exact⟨YS.refl h,List.Sublist.refl _,List.Sublist.refl _⟩
 |M,x::xs,[],h,_=>by unfold front;exact⟨YS.refl h,List.Sublist.refl _,List.Sublist.refl _⟩
 |M,x::xs,y::ys,h,hr=>by
  unfold front;by_cases hw:near a b M x y=16
  ·rw[if_pos hw];have hd:=Ry hn h hr List.mem_cons_self List.mem_cons_self ω;have hr':=(hr.sub (List.sublist_cons_self x xs) (List.sublist_cons_self y ys)).ext h hd.ext hd.inv;obtain⟨h1,h2,h3⟩:=Pg hn _ xs ys hd.inv hr';exact⟨hd.trans (h1.more (fun _=>List.mem_cons_of_mem _) (fun _=>List.mem_cons_of_mem _)),h2.trans (List.sublist_cons_self _ _),h3.trans (List.sublist_cons_self _ _)⟩
  ·rw[if_neg hw];exact⟨YS.refl h,List.Sublist.refl _,List.Sublist.refl _⟩
theorem QJ{l:List Nat}{i:Nat}(h:i<l.length):l.getD i 0∈l:=by
 rw[List.getD_eq_getElem?_getD,List.getElem?_eq_getElem h];exact List.getElem_mem h
theorem Sb(hn:ZM a b):∀(f:Nat)(M:St)(xs ys:List Nat),Inv a b M→Rows a b M xs ys→YS a b M (back a b f M xs ys).1 xs ys∧(back a b f M xs ys).2.1.Sublist xs∧(back a b f M xs ys).2.2.Sublist ys
 |0,M,xs,ys,h,_=>⟨YS.refl h,List.Sublist.refl _,List.Sublist.refl _⟩
 |f+1,M,xs,ys,h,hr=>by
  unfold back;by_cases hw:0<xs.length∧0<ys.length∧near a b M (xs.getD (xs.length-1) 0) (ys.getD (ys.length-1) 0)=16
  ·rw[if_pos hw];have hd:=Ry hn h hr (QJ (l:=xs) (i:=xs.length-1) ω) (QJ (l:=ys) (i:=ys.length-1) ω) ω;have hr':=(hr.sub (List.take_sublist (xs.length-1) xs) (List.take_sublist (ys.length-1) ys)).ext h hd.ext hd.inv;obtain⟨h1,h2,h3⟩:=Sb hn f _ _ _ hd.inv hr';exact⟨hd.trans (h1.more (fun _=>List.mem_of_mem_take) (fun _=>List.mem_of_mem_take)),h2.trans (List.take_sublist _ _),h3.trans (List.take_sublist _ _)⟩
  ·rw[if_neg hw];exact⟨YS.refl h,List.Sublist.refl _,List.Sublist.refl _⟩
/-- A later one of a row stands behind all that is below an earlier one. -/
theorem VR{s:Sd}(h:xs.Pairwise fun q q'=>q+s.sz q≤q'){i j:Nat}(hij:i≠j)(hi:i<xs.length)(hj:j<xs.length):¬(xs.getD i 0≤xs.getD j 0∧xs.getD j 0<xs.getD i 0+s.sz (xs.getD i 0)):=by
 rw[List.getD_eq_getElem?_getD,List.getD_eq_getElem?_getD,List.getElem?_eq_getElem hi,List.getElem?_eq_getElem hj];simp only[Option.getD_some];rcases Nat.lt_or_gt_of_ne hij with h1|h1
 ·have:=List.pairwise_iff_getElem.1 h i j hi hj h1;omega
 ·have:=List.pairwise_iff_getElem.1 h j i hj hi h1;have:=s.ES xs[j];omega
theorem XU{L L':List Int}{x:Nat}(h:L'[x]?=L[x]?):QQ L' x=QQ L x:=by unfold QQ;rw[List.getD_eq_getElem?_getD,List.getD_eq_getElem?_getD,h]
theorem jF{L L':List Int}{x y:Nat}(h:L'[x]?=L[x]?):Pd L' x y↔Pd L x y:=by unfold Pd;rw[h]
theorem XR(hn:ZM a b)(v:Nat→Nat→Nat)(xs ys:List Nat)(M0:St)(hv:∀i j,i<xs.length→j<ys.length→0<v i j→QQ M0.1 (xs.getD i 0)=true∧QQ M0.2 (ys.getD j 0)=true∧(a.at_ (xs.getD i 0)).k=(b.at_ (ys.getD j 0)).k) :
 ∀(f:Nat)(M:St)(i j:Nat),Inv a b M→Rows a b M xs ys→(∀i',i≤i'→i'<xs.length→M.1[xs.getD i' 0]?=M0.1[xs.getD i' 0]?)→(∀j',j≤j'→j'<ys.length→M.2[ys.getD j' 0]?=M0.2[ys.getD j' 0]?)→YS a b M (QR a b v xs ys f M i j) xs ys
 |0,M,i,j,h,_,_,_=>YS.refl h
 |f+1,M,i,j,h,hr,k1,k2=>by
  unfold QR;by_cases hc:i<xs.length∧j<ys.length
  ·rw[if_pos hc];by_cases hw:0<v i j∧QU v xs.length ys.length (xs.length-i) (ys.length-j)=v i j+QU v xs.length ys.length (xs.length-(i+1)) (ys.length-(j+1))
   ·rw[if_pos hw];obtain⟨f1,f2,hk⟩:=hv i j hc.1 hc.2 hw.1;rw[←XU (k1 i (Nat.le_refl _) hc.1)]at f1;rw[←XU (k2 j (Nat.le_refl _) hc.2)]at f2;have hs:=hr.step (QJ hc.1) (QJ hc.2) f1 f2 hk;have hd:=ET hn h (QJ hc.1) (QJ hc.2) hs;obtain⟨_,_,_,_,_,q1,q2⟩:=XH hn h hs;refine hd.trans (XR hn v xs ys M0 hv f _ _ _ hd.inv (hr.ext h hd.ext hd.inv) (fun i' h1 h2=>?_) fun j' h1 h2=>?_)
    ·rw[q1 _ (VR hr.apart.1 ω hc.1 h2)];exact k1 i' ω h2
    ·rw[q2 _ (VR hr.apart.2 ω hc.2 h2)];exact k2 j' ω h2
   ·rw[if_neg hw];split
    ·exact XR hn v xs ys M0 hv f M (i+1) j h hr (fun i' h1 h2=>k1 i' ω h2) k2
    ·exact XR hn v xs ys M0 hv f M i (j+1) h hr k1 (fun j' h1 h2=>k2 j' ω h2)
  ·rw[if_neg hc];exact YS.refl h
theorem EX(hn:ZM a b):∀(f:Nat)(M:St)(xs ys:List Nat),Inv a b M→Rows a b M xs ys→YS a b M (pieces a b f M xs ys) xs ys
 |0,M,xs,ys,h,_=>YS.refl h
 |f+1,M,xs,ys,h,hr=>by
  unfold pieces;by_cases hc:0<xs.length∧0<ys.length
  ·rw[if_pos hc];have hr1:=hr.sub (List.take_sublist (min 256 xs.length) xs) (List.take_sublist (min 256 ys.length) ys);have hd:YS a b M (piece a b M (xs.take (min 256 xs.length)) (ys.take (min 256 ys.length))) (xs.take (min 256 xs.length)) (ys.take (min 256 ys.length)):=by
      unfold piece;exact XR hn _ _ _ M (fun i j hi hj hw=>Rx hw) _ M 0 0 h hr1 (fun _ _ _=>rfl) (fun _ _ _=>rfl)
   have hd1:=hd.more (xs':=xs) (ys':=ys) (fun _=>List.mem_of_mem_take) (fun _=>List.mem_of_mem_take);have hr2:=(hr.sub (List.drop_sublist (min 256 xs.length) xs) (List.drop_sublist (min 256 ys.length) ys)).ext h hd1.ext hd1.inv;exact hd1.trans ((EX hn f _ _ _ hd1.inv hr2).more (fun _=>List.mem_of_mem_drop) (fun _=>List.mem_of_mem_drop))
  ·rw[if_neg hc];exact YS.refl h
theorem TD(hn:ZM a b)(h:Inv a b M)(hr:Rows a b M xs ys):YS a b M (YV a b M xs ys) xs ys:=by
 obtain⟨f1,f2,f3⟩:=Pg hn M xs ys h hr;have hr1:=(hr.sub f2 f3).ext h f1.ext f1.inv;obtain⟨g1,g2,g3⟩:=Sb hn (front a b M xs ys).2.1.length _ _ _ f1.inv hr1;have hr2:=(hr1.sub g2 g3).ext f1.inv g1.ext g1.inv;have hp:=EX hn (back a b (front a b M xs ys).2.1.length (front a b M xs ys).1 (front a b M xs ys).2.1 (front a b M xs ys).2.2).2.1.length _ _ _ g1.inv hr2;unfold YV;exact(f1.trans (g1.more (fun _ h=>f2.subset h) (fun _ h=>f3.subset h))).trans (hp.more (fun _ h=>f2.subset (g2.subset h)) (fun _ h=>f3.subset (g3.subset h)))
end
theorem Qf5{α:Type}(f:α→Nat)(y:Nat):∀(L:List α),(L.Pairwise fun p q=>f p<f q)→∀(i:Nat)(e:α),L[i]? = some e→(i<L.countP (fun e=>decide (f e≤y)) ↔ f e≤y)
 |[],_,i,e,h=>by simp at h
 |p::r,hp,i,e,h=>by
  rw[List.pairwise_cons]at hp;rw[List.countP_cons];by_cases hy:f p≤y
  ·rw[if_pos (by simpa using hy)];cases i with
   |zero=>simp only[Ib,Option.some.injEq]at h;subst h;exact⟨fun _=>hy,fun _=>ω⟩
   |succ i=>have:=Qf5 f y r hp.2 i e (by simpa using h);omega
  ·rw[if_neg (by simpa using hy)]
   have hz:r.countP (fun e=>decide (f e≤y))=0:=by
    rw[List.countP_eq_zero];intro q hq;have:=hp.1 q hq;simp;omega
   have he:f p≤f e:=by
    cases i with
    |zero=>simp only[Ib,Option.some.injEq]at h;subst h;exact Nat.le_refl _
    |succ i=>exact Nat.le_of_lt (hp.1 e (JK (by simpa using h)))
   rw[hz];omega
def vA(l:List NP):Prop:=l.Pairwise fun p q=>p.1<q.1∧p.2<q.2
def sn(l:List NP)(e:Nat):Nat:=(l.getD e (0,0)).2
def Gz(l:List NP)(before:List Nat):Nat→Nat→Prop
 |0,e=>e<l.length
 |k+1,e=>e<l.length∧before.getD e 0<e∧sn l (before.getD e 0)<sn l e∧Gz l before k (before.getD e 0)
theorem Gz.lt{l:List NP}{before:List Nat}{k e:Nat}(h:Gz l before k e):e<l.length:=by
 cases k with
 |zero=>exact h
 |succ k=>exact h.1
theorem getD_set_ne{l:List Nat}{i j v:Nat}(h:i≠j):(l.set i v).getD j 0=l.getD j 0:=by
 rw[QX,List.getElem?_set_ne h,←QX]
theorem Qev{l:List Nat}{i v:Nat}(h:i<l.length):(l.set i v).getD i 0=v:=by
 rw[QX,List.getElem?_set_self h];rfl
theorem Gz.set{l:List NP}{before:List Nat}{i v:Nat}:∀{k e:Nat},e<i→Gz l before k e→Gz l (before.set i v) k e
 |0,e,_,h=>h
 |k+1,e,he,h=>by
  unfold Gz at h⊢;rw[getD_set_ne ω];exact⟨h.1,h.2.1,h.2.2.1,h.2.2.2.set ω⟩
structure LI(l:List NP)(i:Nat)(s:List Nat×List Nat):Prop where
 lb:s.2.length=l.length
 le:s.1.length≤i
 lt:∀e∈s.1,e<i
 up:s.1.Pairwise fun p q=>sn l p<sn l q
 ch:∀k e,s.1[k]?=some e→Gz l s.2 k e
 ne:0<i→0<s.1.length
theorem Qvh{l:List NP}{i:Nat}{s:List Nat×List Nat}(hd:∀p q,p<q→q<l.length→sn l p≠sn l q)(hi:i<l.length)(h:LI l i s):LI l (i+1) (Y7 l s i):=by
 have hk:∀(j e:Nat),s.1[j]?=some e→(j<NH l s.1 (sn l i)↔sn l e≤sn l i):=fun j e he=>Qf5 (sn l) (sn l i) s.1 h.up j e he
 have hle:NH l s.1 (sn l i)≤s.1.length:=List.countP_le_length;unfold Y7;simp only;generalize hK:NH l s.1 (l.getD i (0,0)).2=k;have hK':NH l s.1 (sn l i)=k:=hK;rw[hK']at hk hle;have ZV:(if k=s.1.length then s.1++[i]else s.1).set k i=if k=s.1.length then s.1++[i]else s.1.set k i:=by
  by_cases e:k=s.1.length
  ·rw[if_pos e,if_pos e,e];simp
  ·rw[if_neg e,if_neg e]
 have hlen:((if k=s.1.length then s.1++[i]else s.1).set k i).length=if k=s.1.length then s.1.length+1 else s.1.length:=by rw[ZV];split <;> simp
 have hat:∀j e,((if k=s.1.length then s.1++[i]else s.1).set k i)[j]? = some e→(j=k∧e=i)∨(j≠k∧s.1[j]? = some e):=fun j e he=>by
  rw[ZV]at he;by_cases hkl:k=s.1.length
  ·rw[if_pos hkl,List.getElem?_append]at he;by_cases hjl:j<s.1.length
   ·rw[if_pos hjl]at he;exact .inr ⟨ω,he⟩
   ·rw[if_neg hjl,List.getElem?_singleton]at he;by_cases hz:j-s.1.length=0
    ·rw[if_pos hz]at he;injection he with he;exact .inl ⟨ω,he.symm⟩
    ·rw[if_neg hz]at he;cases he
  ·rw[if_neg hkl,List.getElem?_set]at he;by_cases hj:k=j
   ·rw[if_pos hj,if_pos ω]at he;injection he with he;exact .inl ⟨hj.symm,he.symm⟩
   ·rw[if_neg hj]at he;exact .inr ⟨fun e=>hj e.symm,he⟩
 have SZ:∀j e,j<k→s.1[j]? = some e→sn l e<sn l i:=fun j e hj he=>by
  have h1:=(hk j e he).1 hj;have h2:=hd e i (h.lt e (JK he)) hi;omega
 have xh:∀j e,k≤j→s.1[j]? = some e→sn l i<sn l e:=fun j e hj he=>by
  have h1:=hk j e he;omega
 have kL:0<k→∃e,s.1[k-1]? = some e∧s.1.getD (k-1) 0=e:=fun h0=>by
  have hl:k-1<s.1.length:=ω
  exact⟨s.1[k-1],QN hl,by rw[QX,QN hl];rfl⟩
 refine⟨?_,?_,fun e he=>?_,?_,fun j e he=>?_,fun _=>?_⟩
 ·simp only;split
  ·rw[List.length_set];exact h.lb
  ·exact h.lb
 ·simp only;rw[hlen];have:=h.le;split <;> omega
 ·obtain⟨j,he⟩:=List.getElem?_of_mem he;rcases hat j e he with⟨_,rfl⟩|⟨_,he⟩
  ·omega
  ·have:=h.lt e (JK he);omega
 ·simp only;rw[List.pairwise_iff_getElem];intro p q hp hq PJ;have e1:=hat p _ (QN hp);have e2:=hat q _ (QN hq);rcases e1 with⟨h1,e1⟩|⟨h1,e1⟩
  ·rcases e2 with⟨h2,e2⟩|⟨h2,e2⟩
   ·omega
   ·rw[e1];exact xh q _ ω e2
  ·rcases e2 with⟨h2,e2⟩|⟨h2,e2⟩
   ·rw[e2];exact SZ p _ ω e1
   ·obtain⟨a1,b1⟩:=List.getElem?_eq_some_iff.1 e1;obtain⟨a2,b2⟩:=List.getElem?_eq_some_iff.1 e2;rw[←b1,←b2];exact List.pairwise_iff_getElem.1 h.up p q a1 a2 PJ
 ·simp only at he⊢;rcases hat j e he with⟨rfl,rfl⟩|⟨hj,he⟩
  ·cases j with
   |zero=>exact hi
   |succ k'=>obtain⟨e',h1,h2⟩:=kL (Nat.succ_pos _);rw[if_pos (Nat.succ_pos _)];unfold Gz;have hlt:=h.lt e' (JK h1);rw[Qev (by rw[h.lb];exact hi),h2];refine⟨hi,hlt,SZ k' e' ω h1,(h.ch k' e' h1).set hlt⟩
  ·have hc:=h.ch j e he;split
   ·exact hc.set (h.lt e (JK he))
   ·exact hc
 ·simp only;rw[hlen];split <;> omega
theorem pL{l:List NP}(hd:∀p q,p<q→q<l.length→sn l p≠sn l q):∀i,i≤l.length→LI l i (Q7 l i)
 |0,_=>⟨by simp[Q7],Nat.le_refl _,fun e h=>by simp[Q7]at h,List.Pairwise.nil,fun k e h=>by simp[Q7]at h,fun h=>ω⟩
 |i+1,h=>by unfold Q7;exact Qvh hd ω (pL hd i ω)
theorem Qez{l:List NP}{before:List Nat}(hf:l.Pairwise fun p q=>p.1<q.1):∀(k e:Nat)(out:List NP),Gz l before k e→(∀p∈out,p∈l)→vA out→(∀p∈out,(l.getD e (0,0)).1<p.1∧(l.getD e (0,0)).2<p.2)→vA (Yo l before (k+1) e out)∧∀p∈Yo l before (k+1) e out,p∈l
 |k,e,out,hc,hm,hr,hb=>by
  have hl:=hc.lt;have hat:l.getD e (0,0)=l[e]:=by rw[QX,QN hl];rfl
  have hm':∀p∈l.getD e (0,0)::out,p∈l:=fun p hp=>by
   rcases List.mem_cons.1 hp with rfl|hp
   ·rw[hat];exact List.getElem_mem hl
   ·exact hm p hp
  have hr':vA (l.getD e (0,0)::out):=List.pairwise_cons.2 ⟨hb,hr⟩;unfold Yo;cases k with
  |zero=>exact⟨hr',hm'⟩
  |succ k =>
   obtain⟨_,h2,h3,h4⟩:=hc;refine Qez hf k _ _ h4 hm' hr' fun p hp=>?_
   have hlt:=h4.lt;have h1:(l.getD (before.getD e 0) (0,0)).1<(l.getD e (0,0)).1:=by rw[hat,QX,QN hlt];exact List.pairwise_iff_getElem.1 hf _ _ hlt hl h2
   rcases List.mem_cons.1 hp with rfl|hp
   ·exact⟨h1,h3⟩
   ·have:=hb p hp;exact⟨ω,by unfold sn at h3;omega⟩
theorem Qdz{l:List NP}(hf:l.Pairwise fun p q=>p.1<q.1)(hs:l.Pairwise fun p q=>p.2≠q.2):vA (Vo l)∧∀p∈Vo l,p∈l:=by
 have hd:∀p q,p<q→q<l.length→sn l p≠sn l q:=fun p q PJ hq=>by
  unfold sn;rw[QX,QX,QN hq,QN (show p<l.length by omega)];exact List.pairwise_iff_getElem.1 hs p q ω hq PJ
 have h:=pL hd l.length (Nat.le_refl _);unfold Vo;simp only;cases hn:(Q7 l l.length).1.length with
 |zero=>unfold Yo;exact⟨List.Pairwise.nil,fun p hp=>by cases hp⟩
 |succ k =>
  have hk:k<(Q7 l l.length).1.length:=ω
  have e1:=QN hk;rw[Nat.add_sub_cancel,QX,e1];exact Qez hf k _ [] (h.ch k _ e1) (fun p hp=>by cases hp) List.Pairwise.nil (fun p hp=>by cases hp)
section
variable {a b:Sd}{M M':St}{xs ys:List Nat}{i j:Nat}
theorem Qpd{row:List Nat}{v j:Nat}(hs:row.Pairwise (·<·))(h:find row ((v:Nat):Int)=some j):row[j]?=some v:=by
 unfold find at h;by_cases hm:row.any (fun q=>((q:Nat):Int)==((v:Nat):Int))=true
 ·rw[if_pos hm]at h;injection h with h;obtain⟨q,hq,he⟩:=List.any_eq_true.1 hm;simp only[beq_iff_eq]at he;obtain rfl:q=v:=ω
  clear hm he
  have hc:∀(l:List Nat),l.Pairwise (·< ·)→q∈l→l[l.countP fun p=>decide (((p:Nat):Int)<((q:Nat):Int))]? = some q:=by
   intro l
   induction l with
   |nil=>intro _ h;cases h
   |cons p r ih =>
    intro hp hm;rw[List.pairwise_cons]at hp;rw[List.countP_cons];rcases List.mem_cons.1 hm with rfl|hm
    ·have hz:r.countP (fun p=>decide (((p:Nat):Int)<((q:Nat):Int)))=0:=by
      rw[List.countP_eq_zero];intro z hz;have:=hp.1 z hz;simp;omega
     rw[hz,if_neg ψ];rfl
    ·have:=hp.1 q hm;rw[if_pos (by simpa using this),List.getElem?_cons_succ];exact ih hp.2 hm
  rw[←h];exact hc row hs hq
 ·rw[if_neg hm]at h;cases h
theorem ig{s:Sd}{L:List Int}{row:List Nat}{m i:Nat}:i∈NJ s L row m↔i<row.length∧QQ L (row.getD i 0)=true∧s.no (row.getD i 0)=m:=by
 unfold NJ;rw[List.mem_filter,List.mem_range];simp
theorem Yb{l:List Nat}(h:l.length=1):l.getD 0 0∈l∧∀x∈l,x=l.getD 0 0:=by
 obtain⟨x,rfl⟩:=List.length_eq_one_iff.1 h;exact⟨ψ,fun y hy=>by simpa using hy⟩
def bZ(a b:Sd)(M:St)(xs ys:List Nat)(i j:Nat):Prop :=
 i<xs.length∧j<ys.length∧(Pd M.1 (xs.getD i 0) (ys.getD j 0)∨(QQ M.1 (xs.getD i 0)=true∧QQ M.2 (ys.getD j 0)=true∧a.no (xs.getD i 0)=b.no (ys.getD j 0)∧(∀i',i'<xs.length→QQ M.1 (xs.getD i' 0)=true→a.no (xs.getD i' 0)=a.no (xs.getD i 0)→i'=i)))
theorem fE{s:Sd}(h:xs.Pairwise fun q q'=>q+s.sz q≤q'):xs.Pairwise (·<·):=h.imp fun{p q} PJ=>by have:=s.ES p;omega
theorem Un(h:Inv a b M)(hr:Rows a b M xs ys)(hi:i<xs.length){p:NP}(hp:p∈V2 a b M xs ys i):p.1=i∧bZ a b M xs ys i p.2∧V2 a b M xs ys i=[p]:=by
 unfold V2 at hp⊢;by_cases hf:QQ M.1 (xs.getD i 0)=true
 ·rw[if_pos hf]at hp⊢;by_cases hc:(NJ a M.1 xs (a.no (xs.getD i 0))).length=1∧(NJ b M.2 ys (a.no (xs.getD i 0))).length=1
  ·rw[if_pos hc]at hp⊢;obtain rfl:=List.mem_singleton.1 hp;obtain⟨m1,u1⟩:=Yb hc.1;obtain⟨m2,u2⟩:=Yb hc.2;obtain⟨q1,q2,q3⟩:=ig.1 m2;refine⟨rfl,⟨hi,q1,.inr ⟨hf,q2,q3.symm,fun i' h1 h2 h3=>?_⟩⟩,rfl⟩;exact(u1 i' (ig.2 ⟨h1,h2,h3⟩)).trans (u1 i (ig.2 ⟨hi,hf,rfl⟩)).symm
  ·rw[if_neg hc]at hp;cases hp
 ·rw[if_neg hf]at hp⊢;obtain⟨v,hv⟩:=h.part.Rw (hr.lt.1 _ (QJ hi)) (Qo9 hf);have he:M.1.getD (xs.getD i 0) 0=((v:Nat):Int):=by rw[QX,hv];rfl
  rw[he]at hp⊢;cases Mj:find ys ((v:Nat):Int)with
  |none=>rw[Mj]at hp;cases hp
  |some j =>
   rw[Mj]at hp;simp only at hp⊢;obtain rfl:=List.mem_singleton.1 hp;have hj:=Qpd (fE hr.apart.2) Mj;have hjl:=(List.getElem?_eq_some_iff.1 hj).1;have hjd:ys.getD j 0=v:=by rw[QX,hj];rfl
   exact⟨rfl,⟨hi,hjl,.inl (by rw[hjd];exact hv)⟩,rfl⟩
theorem rB(h:Inv a b M)(hr:Rows a b M xs ys){p:NP}(hp:p∈Kq a b M xs ys):bZ a b M xs ys p.1 p.2:=by
 unfold Kq at hp;obtain⟨i,hi,hp⟩:=List.mem_flatMap.1 hp;rw[List.mem_range]at hi;obtain⟨h1,h2,_⟩:=Un h hr hi hp;rw[h1];exact h2
theorem iu(h:Inv a b M)(hr:Rows a b M xs ys):(Kq a b M xs ys).Pairwise fun p q=>p.1<q.1:=by
 unfold Kq;rw[List.pairwise_flatMap];refine⟨fun i hi=>?_,?_⟩
 ·rw[List.mem_range]at hi;cases hl:V2 a b M xs ys i with
  |nil=>exact List.Pairwise.nil
  |cons p r=>have:=(Un h hr hi (p:=p) (by rw[hl];exact XG)).2.2;rw[hl]at this;rw[this];exact List.pairwise_singleton _ _
 ·refine(List.Pairwise.and_mem.1 List.pairwise_lt_range).imp ?_;rintro i i' ⟨hi,hi',hlt⟩ p hp q hq;rw[List.mem_range]at hi hi';rw[(Un h hr hi hp).1,(Un h hr hi' hq).1];exact hlt
theorem Qte{l:List Nat}(hs:l.Pairwise (·<·)){i j:Nat}(hi:i<l.length)(hj:j<l.length)(h:l.getD i 0=l.getD j 0):i=j:=by
 rw[QX,QX,List.getElem?_eq_getElem hi,List.getElem?_eq_getElem hj]at h;simp only[Option.getD_some]at h;rcases Nat.lt_trichotomy i j with h1|h1|h1
 ·have:=List.pairwise_iff_getElem.1 hs i j hi hj h1;omega
 ·exact h1
 ·have:=List.pairwise_iff_getElem.1 hs j i hj hi h1;omega
theorem iy(h:Inv a b M)(hr:Rows a b M xs ys):(Kq a b M xs ys).Pairwise fun p q=>p.2≠q.2:=by
 refine(List.Pairwise.and_mem.1 (iu h hr)).imp ?_;rintro p q ⟨hp,hq,hlt⟩ he;have s1:=rB h hr hp;have s2:=rB h hr hq;rw[←he]at s2;obtain⟨i1,j1,c1⟩:=s1;obtain⟨i2,j2,c2⟩:=s2;rcases c1 with c1|⟨f1,g1,n1,u1⟩
 ·rcases c2 with c2|⟨f2,g2,n2,u2⟩
  ·have:=((h.part.two _ _).1 c1).eq ((h.part.two _ _).1 c2);have:=Qte (fE hr.apart.1) i1 i2 this;omega
  ·rw[((h.part.two _ _).1 c1).free]at g2;cases g2
 ·rcases c2 with c2|⟨f2,g2,n2,u2⟩
  ·rw[((h.part.two _ _).1 c2).free]at g1;cases g1
  ·have:=u1 q.1 i2 f2 (n2.trans n1.symm);omega
theorem Ee{l:List Nat}{f t i:Nat}{x:Nat}(h:x∈(l.take t).drop f):∃i,f≤i∧i<t∧i<l.length∧l.getD i 0=x:=by
 obtain⟨i,hi⟩:=List.getElem?_of_mem h;rw[List.getElem?_drop,List.getElem?_take]at hi;by_cases hc:f+i<t
 ·rw[if_pos hc]at hi;exact⟨f+i,ω,hc,(List.getElem?_eq_some_iff.1 hi).1,by rw[QX,hi];rfl⟩
 ·rw[if_neg hc]at hi;cases hi
theorem Qd3(hn:ZM a b)(M0:St)(h0:Inv a b M0):∀(L:List NP)(M:St)(f g:Nat),Inv a b M→Ext M0 M→Rows a b M xs ys→vA L→(∀p∈L,bZ a b M0 xs ys p.1 p.2∧f≤p.1∧g≤p.2)→
 (∀i,f≤i→i<xs.length→M.1[xs.getD i 0]?=M0.1[xs.getD i 0]?)→(∀j,g≤j→j<ys.length→M.2[ys.getD j 0]?=M0.2[ys.getD j 0]?)→YS a b M (X8 a b xs ys M f g L) xs ys
 |[],M,f,g,h,_,hr,_,_,_,_=>by
  unfold X8;exact(TD hn h (hr.sub (List.drop_sublist f xs) (List.drop_sublist g ys))).more (fun _=>List.mem_of_mem_drop) (fun _=>List.mem_of_mem_drop)
 |p::r,M,f,g,h,he,hr,hR,hL,k1,k2=>by
  obtain⟨⟨hi,hj,hs⟩,hf,hg⟩:=hL p XG;have hr1:Rows a b M ((xs.take p.1).drop f) ((ys.take p.2).drop g):=hr.sub ((List.drop_sublist _ _).trans (List.take_sublist _ _)) ((List.drop_sublist _ _).trans (List.take_sublist _ _));have d1:=TD hn h hr1
  have o1:∀i,p.1≤i→i<xs.length→(YV a b M ((xs.take p.1).drop f) ((ys.take p.2).drop g)).1[xs.getD i 0]? = M0.1[xs.getD i 0]? := fun i h1 h2=>by
   rw[d1.o1 _ fun x hx=>?_]
   ·exact k1 i ω h2
   ·obtain⟨i',q1,q2,q3,rfl⟩:=Ee (i:=0) hx;exact VR hr.apart.1 ω q3 h2
  have o2:∀j,p.2≤j→j<ys.length→(YV a b M ((xs.take p.1).drop f) ((ys.take p.2).drop g)).2[ys.getD j 0]? = M0.2[ys.getD j 0]? := fun j h1 h2=>by
   rw[d1.o2 _ fun x hx=>?_]
   ·exact k2 j ω h2
   ·obtain⟨i',q1,q2,q3,rfl⟩:=Ee (i:=0) hx;exact VR hr.apart.2 ω q3 h2
  have Tf:=d1.more (xs':=xs) (ys':=ys) (fun _ hx=>List.mem_of_mem_take (List.mem_of_mem_drop hx)) (fun _ hx=>List.mem_of_mem_take (List.mem_of_mem_drop hx));have hr2:=hr.ext h Tf.ext Tf.inv;have hst:XN a b (YV a b M ((xs.take p.1).drop f) ((ys.take p.2).drop g)) (xs.getD p.1 0) (ys.getD p.2 0):=by
   rcases hs with hs|⟨f1,f2,hno,_⟩
   ·exact .inl ((jF (o1 _ (Nat.le_refl _) hi)).2 hs)
   ·have hl:=hr.lt;refine hr2.step (QJ hi) (QJ hj) (by rw[XU (o1 _ (Nat.le_refl _) hi)];exact f1) (by rw[XU (o2 _ (Nat.le_refl _) hj)];exact f2) ?_;rw[(hn.alike _ _ (hl.1 _ (QJ hi)) (hl.2 _ (QJ hj))).1 (by unfold JU;rw[hno];simp)]
  have d2:=ET hn Tf.inv (QJ hi) (QJ hj) hst;obtain⟨_,_,_,_,_,q1,q2⟩:=XH hn Tf.inv hst;unfold X8;have hR':=List.pairwise_cons.1 hR;refine(Tf.trans d2).trans (Qd3 hn M0 h0 r _ _ _ d2.inv ((he.trans Tf.ext).trans d2.ext) (hr2.ext Tf.inv d2.ext d2.inv) hR'.2 (fun q hq=>?_) (fun i h1 h2=>?_) fun j h1 h2=>?_)
  ·have:=hR'.1 q hq;exact⟨(hL q (List.mem_cons_of_mem _ hq)).1,ω,ω⟩
  ·rw[q1 _ (VR hr.apart.1 ω hi h2)];exact o1 i ω h2
  ·rw[q2 _ (VR hr.apart.2 ω hj h2)];exact o2 j ω h2
theorem ť(hn:ZM a b)(h:Inv a b M)(hr:Rows a b M xs ys):YS a b M (Ec a b M xs ys) xs ys:=by
 obtain⟨h1,h2⟩:=Qdz (iu h hr) (iy h hr);unfold Ec;exact Qd3 hn M h _ M 0 0 h (Ext.refl _) hr h1 (fun p hp=>⟨rB h hr (h2 p hp),Nat.zero_le _,Nat.zero_le _⟩) (fun _ _ _=>rfl) (fun _ _ _=>rfl)
theorem J2(hn:ZM a b):∀(f:Nat)(M:St)(x:Nat),x+f≤a.n→Inv a b M→Inv a b (ZJ a b f M x)∧Ext M (ZJ a b f M x)
 |0,M,x,_,h=>⟨h,Ext.refl _⟩
 |f+1,M,x,hf,h=>by
  unfold ZJ;by_cases hc:0≤M.1.getD x 0∧JU a b x (M.1.getD x 0).toNat=false
  ·rw[if_pos hc];have XM:QQ M.1 x=false:=by unfold QQ;rw[decide_eq_false_iff_not];omega
   obtain⟨y,hy⟩:=h.part.Rw ω XM;have he:M.1.getD x 0=((y:Nat):Int):=by rw[QX,hy];rfl
   rw[he,Int.toNat_natCast];have d:=ť hn h ⟨x,y,List.Sublist.refl _,List.Sublist.refl _,XM,((h.part.two _ _).1 hy).free⟩;obtain⟨h1,h2⟩:=J2 hn f _ (x+1) ω d.inv;exact⟨h1,d.ext.trans h2⟩
  ·rw[if_neg hc];exact J2 hn f M (x+1) ω h
end
section
variable {a b:Sd}{M M':St}
theorem Jk(a b:Sd)(z:Nat):(z<a.n→QQ (Kz a b).1 z=true)∧(z<b.n→QQ (Kz a b).2 z=true):=by
 unfold QQ Kz
 constructor <;> intro h <;> rw[QX,List.getElem?_replicate,if_pos h] <;> rfl
theorem U2(a b:Sd)(x y:Nat):¬Pd (Kz a b).1 x y∧¬Pd (Kz a b).2 x y:=by
 unfold Pd Kz
 constructor <;> rw[List.getElem?_replicate] <;> split <;> simp <;> omega
theorem iR(a b:Sd):Part a b (Kz a b) :=
 ⟨by simp[Kz],by simp[Kz],fun x hx=>.inl ((Jk a b x).1 hx),fun y hy=>.inl ((Jk a b y).2 hy),fun x y=>⟨fun h=>absurd h (U2 a b x y).1,fun h=>absurd h (U2 a b y x).2⟩,fun x y h=>absurd h (U2 a b x y).1⟩
theorem yL(h:a.Ok):a.sz 0=a.n:=by
 have:=Sd.ZK h.pos;obtain⟨k,x,y,c,e⟩:=h;unfold Sd.nd at this;rw[e,Gm]at this;injection this with this;rw[Sd.GN,e,Q4];unfold Sd.sz;rw[←this];rfl
def M1(a b:Sd):St:=QK a b (Kz a b) 0 0
theorem yw(hn:ZM a b)(hk:(a.at_ 0).k=(b.at_ 0).k):Inv a b (M1 a b)∧Pd (M1 a b).1 0 0:=by
 have h0:=hn.EG.pos;have h1:=hn.Hq.pos;obtain⟨c0,d1,d2,c1,c2⟩:=rJ hn h0 h1;have e1:0+Q2 a b 0 0≤(Kz a b).1.length:=by rw[(iR a b).l1];exact c1
 have e2:0+Q2 a b 0 0≤(Kz a b).2.length:=by rw[(iR a b).l2];exact c2
 obtain⟨hP,_⟩:=om hn (iR a b) h0 h1 hk (fun i hi=>(Jk a b _).1 ω) (fun i hi=>(Jk a b _).2 ω);have zP:Pd (M1 a b).1 0 0:=G4 (i:=0) (x:=0) (y:=0) c0 ω
 have sh:∀(s:Sd)(L:List Int)(c:Nat),s.Ok→L.length=s.n→(∀z,z<s.n→QQ L z=true)→(c=1∨c=s.n)→Shut s (Kv L 0 0 c):=fun s L c ho hl hf hc p q hq o8=>by
  have hp:=Sd.KE hq;have hm:=Sd.VS hp hq;by_cases hr:0≤p∧p<0+c
  ·rw[bS hr ω]at o8;cases o8
  ·rw[Kx ω];exact hf q hm.2.2
 have hc1:Q2 a b 0 0=1∨Q2 a b 0 0=a.n:=by unfold Q2;rw[yL hn.EG];split <;> simp
 have hc2:Q2 a b 0 0=1∨Q2 a b 0 0=b.n:=by
  unfold Q2;by_cases e:JU a b 0 0=true
  ·rw[if_pos e,hn.size h0 h1 e,yL hn.Hq];exact .inr rfl
  ·rw[if_neg e];exact .inl rfl
 refine⟨⟨hP,sh a _ _ hn.EG (by simp[Kz]) (fun z hz=>(Jk a b z).1 hz) hc1,sh b _ _ hn.Hq (by simp[Kz]) (fun z hz=>(Jk a b z).2 hz) hc2,?_⟩,zP⟩;intro z v hv ha i hi;rcases(Jm e1).1 hv with⟨j,q1,rfl,rfl⟩|⟨_,q2⟩
 ·refine(Jm e1).2 (.inl ⟨j+i,?_,ω,ω⟩);rw[Nat.zero_add]at hi;have hs:=Sd.sub (s:=a) (x:=j) ω;unfold Q2 at q1⊢;by_cases e:JU a b 0 0=true
  ·rw[if_pos e,yL hn.EG]at q1⊢;omega
  ·rw[if_neg e]at q1⊢;obtain rfl:j=0:=ω
   exact absurd ha e
 ·exact absurd q2 (U2 a b z v).1
theorem J1{s:Sd}{k:Ky}{p:Nat}:p∈items s k↔p∈s.kid 0∧keyOf s p=some k:=by unfold items;rw[List.mem_filter];simp
def ë(a b:Sd)(M:St)(x:Nat):Prop:=∀k,keyOf a x=some k→(items a k).length=1→(items b k).length=1→XN a b M x ((items b k).getD 0 0)
theorem Ļ{s:Sd}{p x z:Nat}(hx:x∈s.kid p)(hz:z∈s.kid p)(hne:x≠z):¬(x≤z∧z<x+s.sz x):=by
 obtain⟨i,hi,rfl⟩:=List.getElem_of_mem hx;obtain⟨j,hj,rfl⟩:=List.getElem_of_mem hz;have:=VR (s.JT p) (show i≠j from fun e=>hne (by subst e;rfl)) hi hj;rw[QX,QX,List.getElem?_eq_getElem hi,List.getElem?_eq_getElem hj]at this;exact this
theorem Qn3(hn:ZM a b)(h:Inv a b M){x y x0 y0:Nat}(hs:XN a b M x y)(h0:XN a b M x0 y0)(o1:¬(x0≤x∧x<x0+a.sz x0))(o2:¬(y0≤y∧y<y0+b.sz y0)):XN a b (QK a b M x0 y0) x y:=by
 obtain⟨h1,h2,_,_,_,q1,q2⟩:=XH hn h h0;rcases hs with hs|⟨s1,s2,s3,s4,s5,s6,s7⟩
 ·exact .inl (h2.1 _ _ hs)
 ·exact .inr ⟨s1,s2,s3,by rw[XU (q1 x o1)];exact s4,by rw[XU (q2 y o2)];exact s5,fun p hp=>h2.Ox h (Sd.KE hp) (s6 p hp),fun p hp=>h2.Ow h (Sd.KE hp) (s7 p hp)⟩
theorem Gy(hn:ZM a b):∀(l:List Nat)(M:St),Inv a b M→l.Nodup→(∀x∈l,x∈a.kid 0∧ë a b M x)→
 Inv a b (Zw a b M l)∧Ext M (Zw a b M l)∧∀x∈l,∀k,keyOf a x=some k→(items a k).length=1→(items b k).length=1→Pd (Zw a b M l).1 x ((items b k).getD 0 0)
 |[],M,h,_,_=>⟨h,Ext.refl _,fun x hx=>by cases hx⟩
 |x::r,M,h,hnd,hl=>by
  rw[List.nodup_cons]at hnd;unfold Zw;cases hk:keyOf a x with
  |none =>
   simp only;obtain⟨h1,h2,h3⟩:=Gy hn r M h hnd.2 fun z hz=>hl z (UN _ hz)
   refine⟨h1,h2,fun z hz k e=>?_⟩;rcases List.mem_cons.1 hz with rfl|hz
   ·rw[hk]at e;cases e
   ·exact h3 z hz k e
  |some k =>
   simp only;by_cases hc:(items a k).length=1∧(items b k).length=1
   ·rw[if_pos hc];have hs:=(hl x XG).2 k hk hc.1 hc.2;obtain⟨h1,h2,h3,_⟩:=XH hn h hs;obtain⟨m1,u1⟩:=Yb hc.1;obtain⟨m2,u2⟩:=Yb hc.2;have hy:=J1.1 m2;have hxk:=(hl x XG).1
    obtain⟨g1,g2,g3⟩:=Gy hn r _ h1 hnd.2 fun z hz=>by
     obtain⟨z1,z2⟩:=hl z (UN _ hz);refine⟨z1,fun k' e1 e2 e3=>?_⟩;have hne:x≠z:=fun e=>hnd.1 (e ▸ hz)
     obtain⟨m3,u3⟩:=Yb e3;have hy':=J1.1 m3;refine Qn3 hn h (z2 k' e1 e2 e3) hs (Ļ hxk z1 hne) (Ļ hy.1 hy'.1 fun e=>?_);rw[e,hy'.2]at hy;have hkk:k'=k:=Option.some.inj hy.2;subst hkk;exact hne ((u1 x (J1.2 ⟨hxk,hk⟩)).trans (u1 z (J1.2 ⟨z1,e1⟩)).symm)
    refine⟨g1,h2.trans g2,fun z hz k' e1 e2 e3=>?_⟩;rcases List.mem_cons.1 hz with rfl|hz
    ·rw[hk]at e1;obtain rfl:=Option.some.inj e1;exact g2.1 _ _ h3
    ·exact g3 z hz k' e1 e2 e3
   ·rw[if_neg hc];obtain⟨h1,h2,h3⟩:=Gy hn r M h hnd.2 fun z hz=>hl z (UN _ hz)
    refine⟨h1,h2,fun z hz k' e e2 e3=>?_⟩;rcases List.mem_cons.1 hz with rfl|hz
    ·rw[hk]at e;obtain rfl:=Option.some.inj e;exact absurd ⟨e2,e3⟩ hc
    ·exact h3 z hz k' e e2 e3
theorem iU(s:Sd)(p:Nat):(s.kid p).Nodup:=(s.JT p).imp fun{x y} h=>by have:=s.ES x;omega
theorem iZ(hn:ZM a b)(e:JU a b 0 0=true):a.T=b.T:=by
 have h:=(hn.alike 0 0 hn.EG.pos hn.Hq.pos).1 e;have h1:=Sd.ZK hn.EG.pos;have h2:=Sd.ZK hn.Hq.pos;rw[h]at h1;obtain⟨k,x,y,c,e1⟩:=hn.EG;obtain⟨k',x',y',c',e2⟩:=hn.Hq;unfold Sd.nd at h1 h2;rw[e1,Gm]at h1;rw[e2,Gm]at h2;have:=h1.trans h2.symm;simp only[List.getElem?_cons_zero,Option.some.injEq,Nd.mk.injEq]at this;rw[e1,e2,this.1,this.2.1,this.2.2.1,this.2.2.2]
theorem Qup(hn:ZM a b)(e:JU a b 0 0=true){x:Nat}(hx:x<a.n):a.no x=b.no x:=by
 have ht:=iZ hn e;have hnn:a.n=b.n:=by rw[Sd.GN,Sd.GN,ht]
 have:=(hn.alike x x hx ω).2 (by unfold Sd.at_ Sd.nd;rw[ht]);unfold JU at this;simpa using this
theorem rM(hn:ZM a b)(e:JU a b 0 0=true)(x:Nat):a.kid x=b.kid x:=by unfold Sd.kid;rw[iZ hn e]
theorem Qea{α:Type}{f g:α→Nat→α}:∀(l:List Nat)(z:α),(∀q∈l,∀u,f u q=g u q)→l.foldl f z=l.foldl g z
 |[],z,_=>rfl
 |q::r,z,h=>by rw[List.foldl_cons,List.foldl_cons,h q XG,Qea r _ fun q hq=>h q (UN _ hq)]
theorem Qrm(hn:ZM a b)(e:JU a b 0 0=true)(x:Nat):keyOf a x=keyOf b x:=by
 have ht:=iZ hn e;have ha:a.at_ x=b.at_ x:=by unfold Sd.at_ Sd.nd;rw[ht]
 have hr:recv a x=recv b x:=by
  unfold recv;rw[rM hn e,rM hn e];refine Qea _ _ fun q hq u=>?_
  rw[←rM hn e]at hq;rw[Qup hn e (Sd.VS (Sd.KE hq) hq).2.2]
 unfold keyOf;rw[ha,hr]
theorem Qko(hn:ZM a b)(e:JU a b 0 0=true)(k:Ky):items a k=items b k:=by
 unfold items;rw[rM hn e];refine List.filter_congr fun p _=>?_
 rw[Qrm hn e]
theorem bX(hn:ZM a b)(hk:(a.at_ 0).k=(b.at_ 0).k){x:Nat}(hx:x∈a.kid 0):ë a b (M1 a b) x:=by
 intro k e1 e2 e3;obtain⟨m2,u2⟩:=Yb e3;have hy:=J1.1 m2;have h0:=hn.EG.pos;have h1:=hn.Hq.pos;have Fi:=Sd.VS h0 hx;have nE:=Sd.VS h1 hy.1;by_cases e:JU a b 0 0=true
 ·have hxy:x=(items b k).getD 0 0:=by
   rw[←Qko hn e];exact(Yb e2).2 x (J1.2 ⟨hx,e1⟩)
  rw[←hxy];refine .inl ?_;have hC:Q2 a b 0 0=a.n:=by unfold Q2;rw[if_pos e,yL hn.EG]
  have:=G4 (M:=(Kz a b).1) (x:=0) (y:=0) (c:=Q2 a b 0 0) (i:=x) (by rw[hC];exact Fi.2.2) (by simp[Kz];omega);rwa[Nat.zero_add]at this
 ·have hC:Q2 a b 0 0=1:=by unfold Q2;rw[if_neg e]
  have hkk:(a.at_ x).k=(b.at_ ((items b k).getD 0 0)).k:=by
   have kk:∀(s:Sd)(p:Nat)(k:Ky),keyOf s p=some k→(s.at_ p).k=k.1:=fun s p k h=>by
    unfold keyOf at h;split at h
    ·rename_i q;injection h with h;rw[←h,q]
    ·split at h
     ·injection h with h;rw[←h]
     ·split at h
      ·rename_i q;injection h with h;rw[←h,q]
      ·cases h
   rw[kk a x k e1,kk b _ k hy.2]
  have g1:∀z,0<z→QQ (M1 a b).1 z=QQ (Kz a b).1 z:=fun z hz=>by unfold M1 QK;rw[hC];exact Kx ω
  have g2:∀z,0<z→QQ (M1 a b).2 z=QQ (Kz a b).2 z:=fun z hz=>by unfold M1 QK;rw[hC];exact Kx ω
  obtain⟨hI,hP⟩:=yw hn hk;refine .inr ⟨Fi.2.2,nE.2.2,hkk,by rw[g1 x Fi.1];exact(Jk a b x).1 Fi.2.2,by rw[g2 _ nE.1];exact(Jk a b _).2 nE.2.2,fun p hp=>?_,fun p hp=>?_⟩
  ·rw[Sd.XK hp hx];exact hP.free
  ·rw[Sd.XK hp hy.1];exact((hI.part.two _ _).1 hP).free
def Open(s:Sd)(L:List Int)(m:Nat):Prop:=∀z,z<s.n→s.sz z≤m→QQ L z=true→∀w,z≤w→w<z+s.sz z→QQ L w=true
theorem ś{s:Sd}{L:List Int}{m x y:Nat}(h:Open s L m)(hx:x<s.n)(hm:s.sz x≤m)(hL:L.length=s.n):Open s (Kv L x y (s.sz x)) (s.sz x):=by
 intro z hz hsz hf w h1 h2;have mg:=Sd.sub hx;have hsz':=Sd.sub hz;have hout:¬(x≤z∧z<x+s.sz x):=fun hr=>by rw[bS hr ω]at hf;cases hf
 rw[Kx hout]at hf
 have hw:¬(x≤w∧w<x+s.sz x):=fun hr=>by
  have hzx:z<x:=ω
  have:=Sd.nest hz (show z≤x by omega) ω;omega
 rw[Kx hw];exact h z hz ω hf w h1 h2
theorem Open.less{s:Sd}{L:List Int}{m m':Nat}(h:Open s L m)(hm:m'≤m):Open s L m':=fun z hz hs=>h z hz ω
structure Pk(a b:Sd)(M:St)(m:Nat):Prop where
 part:Part a b M
 oa:Open a M.1 m
 ob:Open b M.2 m
theorem Qon(hn:ZM a b){m x y:Nat}(h:Pk a b M m)(hx:x<a.n)(hy:y<b.n)(hm:a.sz x≤m)(e:JU a b x y=true)(f1:QQ M.1 x=true)(f2:QQ M.2 y=true):Pk a b (QK a b M x y) (a.sz x)∧Ext M (QK a b M x y):=by
 have hC:Q2 a b x y=a.sz x:=by unfold Q2;rw[if_pos e]
 have hS:=hn.size hx hy e;have hk:(a.at_ x).k=(b.at_ y).k:=by rw[(hn.alike x y hx hy).1 e]
 obtain⟨p1,p2⟩:=om hn h.part hx hy hk (fun i hi=>h.oa x hx hm f1 _ ω ω) (fun i hi=>h.ob y hy ω f2 _ ω ω);refine⟨⟨p1,?_,?_⟩,p2⟩
 ·unfold QK;rw[hC];exact ś h.oa hx hm h.part.l1
 ·unfold QK;rw[hC,hS];exact ś h.ob hy ω h.part.l2
theorem fH(hn:ZM a b)(KP XS:List Nat){m x:Nat}(hx:x<a.n)(hm:a.sz x≤m):∀(l:List Nat)(M:St),Pk a b M m→QQ M.1 x=true→(∀y∈l,y<b.n∧b.no y=a.no x)→
 Pk a b (Ys a b KP XS x M l) (a.sz x)∧Ext M (Ys a b KP XS x M l)
 |[],M,h,_,_=>⟨⟨h.part,h.oa.less hm,h.ob.less hm⟩,Ext.refl _⟩
 |y::r,M,h,f1,hl=>by
  unfold Ys;split
  ·rename_i hc
   simp only[Bool.and_eq_true]at hc;obtain⟨y1,y2⟩:=hl y XG;exact Qon hn h hx y1 hm (by unfold JU;rw[y2];simp) f1 hc.1
  ·exact fH hn KP XS hx hm r M h f1 fun y hy=>hl y (UN _ hy)
theorem iq(hn:ZM a b)(KP XS:List Nat)(sp:Nat→Nat→List Nat)(hsp:∀o q,∀y∈sp o q,y<b.n∧b.no y=q):∀(l:List Nat)(M:St)(m:Nat),Pk a b M m→(∀x∈l,x<a.n∧a.sz x≤m)→(l.Pairwise fun p q=>a.sz q≤a.sz p)→
 Part a b (Yc a b KP XS sp M l)∧Ext M (Yc a b KP XS sp M l)
 |[],M,m,h,_,_=>⟨h.part,Ext.refl _⟩
 |x::r,M,m,h,hl,hs=>by
  rw[List.pairwise_cons]at hs;obtain⟨x1,x2⟩:=hl x XG;unfold Yc;by_cases hf:QQ M.1 x=true
  ·rw[if_pos hf];obtain⟨h1,h2⟩:=fH hn KP XS x1 x2 _ M h hf (hsp _ _);obtain⟨g1,g2⟩:=iq hn KP XS sp hsp r _ (a.sz x) h1 (fun z hz=>⟨(hl z (UN _ hz)).1,hs.1 z hz⟩) hs.2;exact⟨g1,h2.trans g2⟩
  ·rw[if_neg hf];exact iq hn KP XS sp hsp r M m h (fun z hz=>hl z (UN _ hz)) hs.2
theorem Ub{s:Sd}{p z:Nat}:∀l:List Nat,z∈U6 s p l↔z=p∨z∈l
 |[]=>by simp[U6]
 |q::r=>by
  unfold U6;split
  ·rw[Tg,Ub r,Tg]
   constructor <;> rintro(h|h|h) <;> simp[h]
  ·rw[Tg]
theorem Ġ{s:Sd}{p:Nat}:∀l:List Nat,(l.Pairwise fun p q=>s.sz q≤s.sz p)→(U6 s p l).Pairwise fun p q=>s.sz q≤s.sz p
 |[],_=>List.pairwise_singleton _ _
 |q::r,h=>by
  have h':=List.pairwise_cons.1 h;unfold U6;by_cases hc:ahead s q p=true
  ·rw[if_pos hc,List.pairwise_cons];refine⟨fun z hz=>?_,Ġ r h'.2⟩;rcases(Ub r).1 hz with rfl|hz
   ·unfold ahead at hc;simp at hc;omega
   ·exact h'.1 z hz
  ·rw[if_neg hc,List.pairwise_cons];refine⟨fun z hz=>?_,h⟩;have hqp:s.sz q≤s.sz p:=by unfold ahead at hc;simp at hc;omega
   rcases List.mem_cons.1 hz with rfl|hz
   ·exact hqp
   ·have:=h'.1 z hz;omega
theorem E5{s:Sd}(l:List Nat):((J7 s l).Pairwise fun p q=>s.sz q≤s.sz p)∧∀z,z∈J7 s l ↔ z∈l:=by
 have h:∀(l acc:List Nat),(acc.Pairwise fun p q=>s.sz q≤s.sz p)→((l.foldl (fun acc p=>U6 s p acc) acc).Pairwise fun p q=>s.sz q≤s.sz p)∧∀z,z∈l.foldl (fun acc p=>U6 s p acc) acc ↔ z∈acc∨z∈l:=by
  intro l
  induction l with
  |nil=>intro acc h;exact⟨h,fun z=>ψ⟩
  |cons p r ih =>
   intro acc h;obtain⟨h1,h2⟩:=ih _ (Ġ (p:=p) acc h);refine⟨h1,fun z=>?_⟩;rw[List.foldl_cons,h2,Ub,Tg]
   constructor
   ·rintro((h|h)|h) <;> simp[h]
   ·rintro(h|h|h) <;> simp[h]
 obtain⟨h1,h2⟩:=h l [] List.Pairwise.nil;exact⟨h1,fun z=>by unfold J7;rw[h2];simp⟩
theorem Ut(hn:ZM a b)(h:Inv a b M):Part a b (Y9 a b M)∧Ext M (Y9 a b M):=by
 unfold Y9;refine iq hn _ _ _ (fun o q y hy=>?_) _ M (a.n+b.n) ⟨h.part,fun z hz _ hf=>Gf h.c1 hz hf,fun z hz _ hf=>Gf h.c2 hz hf⟩ (fun x hx=>?_) (E5 _).1
 ·unfold Xd at hy;rcases List.mem_append.1 hy with hy|hy
  all_goals
   rw[List.mem_filter,List.mem_range]at hy;simp at hy;exact⟨hy.1,hy.2.2.2.2⟩
 ·rw[(E5 _).2]at hx;unfold Jt at hx;rw[List.mem_filter,List.mem_range]at hx;have:=Sd.sub hx.1;exact⟨hx.1,ω⟩
theorem Qfn(hn:ZM a b)(hk:(a.at_ 0).k=(b.at_ 0).k)(rt:Bool):Part a b (V4 a b rt)∧Pd (V4 a b rt).1 0 0∧
 (rt=true→∀x∈a.kid 0,∀k,keyOf a x=some k→(items a k).length=1→(items b k).length=1→Pd (V4 a b rt).1 x ((items b k).getD 0 0)∧(JU a b x ((items b k).getD 0 0)=true→∀i,i<a.sz x→Pd (V4 a b rt).1 (x+i) ((items b k).getD 0 0+i))):=by
 obtain⟨h1,h2⟩:=yw hn hk;obtain⟨g1,g2,g3⟩:=Gy hn (a.kid 0) (M1 a b) h1 (iU a 0) fun x hx=>⟨hx,bX hn hk hx⟩
 unfold V4;cases rt with
 |false=>rw[if_neg δ];obtain⟨b1,b2⟩:=J2 hn a.n (M1 a b) 0 ω h1;obtain⟨l1,l2⟩:=Ut hn b1;exact⟨l1,(b2.trans l2).1 _ _ h2,fun h=>by cases h⟩
 |true=>rw[if_pos rfl];obtain⟨b1,b2⟩:=J2 hn a.n _ 0 ω g1;obtain⟨l1,l2⟩:=Ut hn b1;refine⟨l1,(g2.trans (b2.trans l2)).1 _ _ h2,fun _ x hx k e1 e2 e3=>?_⟩;have hp:=g3 x hx k e1 e2 e3;exact⟨(b2.trans l2).1 _ _ hp,fun e i hi=>(b2.trans l2).1 _ _ (g1.full _ _ hp e i hi)⟩
end
end Match
namespace Mem
section
variable {P:Program}{Q:Exit→Act→World→Prop}
theorem Ea{l:List Oper}{Inv:(Nat→Bool)→(Nat→Value)→World→Prop}{L:Nat→Bool}{x:Nat→Value}{a:Act}{W:World}(hcl:∀k j,L k=true→Eh l k j=true→L j=true) :
 ∀(os:List Oper)(i:Nat),(∀j,os[j]?=l[i+j]?)→X9 P l Q Inv L x a W i os→X9 P l Q (fun L x W=>Inv L x W∧∀k j,L k=true→Eh l k j=true→L j=true) L x a W i os
 |[],_,_,_=>trivial
 |o::os,i,ho,⟨h1,h2⟩=>by
  refine⟨fun hi hd K hK=>h1 hi hd K (show Shut _ from fun v W' hv=>hK.out v W' ⟨hv,fun k j hk hw=>?_⟩),Ea hcl os (i+1) (fun j=>by have:=ho (j+1);simpa[Nat.add_assoc,Nat.add_comm 1 j]using this) h2⟩;unfold Zh at hk⊢;by_cases zU:k=i
  ·subst zU;have h0:=ho 0;simp only[List.getElem?_cons_zero,Nat.add_zero]at h0;have:L j=true:=hd j (by unfold Eh at hw;rw[←h0]at hw;simpa using hw);split
   ·rfl
   ·exact this
  ·rw[if_neg zU]at hk;split
   ·rfl
   ·exact hcl k j hk hw
theorem Z3{id:Nat}{l:List Oper}{a0:Act}{w:World}(Inv:(Nat→Bool)→(Nat→Value)→World→Prop)(hm:P.follows .mixedOrders=true)(hn:(Xs l).Nodup)(he:Z2 l=true)
 (h0:∀x,Inv (fun _=>false) x w.drew)
 (hsteps:∀L x W,Inv L x W→(∀k j,L k=true→Eh l k j=true→L j=true)→∀a,a=(⟨Qi x 0 l a0.tmps,a0.defers⟩:Act)→X9 P l Q Inv L x a W 0 l)
 (hdone:∀L x W,Inv L x W→(∀i,i<l.length→L i=true)→∀a,a=(⟨Qi x 0 l a0.tmps,a0.defers⟩:Act)→Q .normal a W) :
 (Code.region id l.toArray true).wp P Q a0 w :=
 Qkv (fun L x W=>Inv L x W∧∀k j,L k=true→Eh l k j=true→L j=true) hm hn he ⟨h0 _,fun _ _ h=>by cases h⟩
  (fun L x W hI a ha=>Ea hI.2 l 0 (fun j=>by rw[Nat.zero_add]) (hsteps L x W hI.1 hI.2 a ha)) fun L x W hI hall a ha=>hdone L x W hI.1 hall a ha
theorem Qh{l:List Oper}{dn:Nat→Bool}{i r:Nat}(hcl:∀k j,dn k=true→Eh l k j=true→dn j=true)(hd:dn i=false)(hw:Eh l r i=true):dn r=false:=by
 cases h:dn r with
 |false=>rfl
 |true=>rw[hcl r i h hw]at hd;cases hd
theorem Qr{L:Nat→Bool}{i j:Nat}(h:j≠i):Zh L i j=L j:=by unfold Zh;rw[if_neg h]
theorem Zf{x:Nat→Value}{v:Value}{i j:Nat}(h:j≠i):Qq x i v j=x j:=by unfold Qq;rw[if_neg h]
theorem V8{L:Nat→Bool}{i:Nat}:Zh L i i=true:=by unfold Zh;rw[if_pos rfl]
theorem Ks{x:Nat→Value}{v:Value}{i:Nat}:Qq x i v i=v:=by unfold Qq;rw[if_pos rfl]
end
theorem Qz(w:World)(o:Obj):Below w.heap.size w (w.alloc o):=(Below.refl _ _).alloc (Nat.le_refl _) _
theorem Vk(w:World)(cs:List Value)(T:TypeId):∀(j:Nat)(u:Value),cs[j]? = some u→(w.alloc (θ cs.toArray T)).cell? ⟨w.heap.size,j,none⟩=some u:=fun j u h=>by
 rw[World.cell?_alloc_at _ _ _ _ rfl];simpa using h
structure AG(w0:World)(B:Nat)(C:Nat→Option Value)(iB iA iS:Nat)(R:List QC)(cs:List Value)(R1 R2:Value→List QC)(L:Nat→Bool)(x:Nat→Value)(W:World):Prop where
 QF:Below B w0 W
 kc:∀i v,C i=some v→L i=true→x i=v
 f0:L iA=false→QH W B R
 fb:L iB=true→L iA=false→∃g c,x iB=ς (some ⟨g,0,none⟩) 1 c∧∀j u,cs[j]?=some u→W.cell? ⟨g,j,none⟩=some u
 f1:L iA=true→L iS=false→QH W B (R1 (x iA))
 f2:L iS=true→QH W B (R2 (x iA))
 dS:L iS=true→L iA=true
section
variable {w0 W W':World}{B:Nat}{C:Nat→Option Value}{iB iA iS:Nat}{R:List QC}{cs:List Value}{R1 R2:Value→List QC}{L:Nat→Bool}{x:Nat→Value}{v:Value}
theorem AG.start(h:QH W B R):AG W B C iB iA iS R cs R1 R2 (fun _=>false) x W.drew :=
 ⟨⟨rfl,rfl,rfl,Nat.le_refl _,fun _ _=>rfl⟩,fun _ _ _ h=>(by cases h),fun _=>h.YH ⟨rfl,rfl,rfl,Nat.le_refl _,fun _ _ _=>rfl⟩,fun h=>(by cases h),fun h=>(by cases h),fun h=>(by cases h),fun h=>(by cases h)⟩
theorem AG.Cc(h:AG w0 B C iB iA iS R cs R1 R2 L x W){i:Nat}(hi:C i=none∨C i=some v):∀j u,C j=some u→Zh L i j=true→Qq x i v j=u:=fun j u hj hl=>by
 by_cases e:j=i
 ·subst e;rw[Ks];rcases hi with hi|hi
  ·rw[hi]at hj;cases hj
  ·exact Option.some.inj (hi.symm.trans hj)
 ·rw[Zf e];rw[Qr e]at hl;exact h.kc j u hj hl
theorem AG.quiet(h:AG w0 B C iB iA iS R cs R1 R2 L x W)(hW:B≤W.heap.size)(hb:Below W.heap.size W W'){i:Nat}(hi:C i=some v)(h1:iB≠i)(h2:iA≠i)(h3:iS≠i):AG w0 B C iB iA iS R cs R1 R2 (Zh L i) (Qq x i v) W':=by
 refine⟨h.QF.trans (hb.mono hW),h.Cc (.inr hi),?_,?_,?_,?_,?_⟩;all_goals simp only[Qr h1,Qr h2,Qr h3,Zf h1,Zf h2]
 ·exact fun a=>(h.f0 a).later hb
 ·exact c68
 ·exact fun a b=>(h.f1 a b).later hb
 ·exact fun a=>(h.f2 a).later hb
 ·exact h.dS
theorem AG.build(h:AG w0 B C iB iA iS R cs R1 R2 L x W)(hW:B≤W.heap.size)(hb:Below W.heap.size W W')(hC:C iB=none)(hA:iA≠iB)(hS:iS≠iB){g c:Nat}(hv:v=ς (some ⟨g,0,none⟩) 1 c)(hc:∀j u,cs[j]?=some u→W'.cell? ⟨g,j,none⟩=some u) :
 AG w0 B C iB iA iS R cs R1 R2 (Zh L iB) (Qq x iB v) W':=by
 refine⟨h.QF.trans (hb.mono hW),h.Cc (.inl hC),?_,fun _ _=>⟨g,c,by rw[Ks,hv],hc⟩,?_,?_,?_⟩;all_goals simp only[Qr hA,Qr hS,Zf hA]
 ·exact fun a=>(h.f0 a).later hb
 ·exact fun a b=>(h.f1 a b).later hb
 ·exact fun a=>(h.f2 a).later hb
 ·exact h.dS
theorem AG.app(h:AG w0 B C iB iA iS R cs R1 R2 L x W)(hC:C iA=none)(hS:iS≠iA)(hL:L iA=false)(hb:Below B W W')(hf:QH W' B (R1 v)):AG w0 B C iB iA iS R cs R1 R2 (Zh L iA) (Qq x iA v) W':=by
 have s0:L iS=false:=by cases e:L iS with|false=>rfl|true=>rw[h.dS e]at hL;cases hL
 refine⟨h.QF.trans hb,h.Cc (.inl hC),fun a=>(by rw[V8]at a;cases a),fun _ a=>(by rw[V8]at a;cases a),fun _ _=>by rw[Ks];exact hf,?_,?_⟩;all_goals simp only[Qr hS,s0]
 all_goals intro q;cases q
theorem AG.store(h:AG w0 B C iB iA iS R cs R1 R2 L x W)(hC:C iS=none)(hA:iA≠iS)(hL:L iA=true)(hb:Below B W W')(hf:QH W' B (R2 (x iA))):AG w0 B C iB iA iS R cs R1 R2 (Zh L iS) (Qq x iS v) W':=by
 refine⟨h.QF.trans hb,h.Cc (.inl hC),fun a=>?_,fun _ a=>?_,fun _ a=>(by rw[V8]at a;cases a),fun _=>by rw[Zf hA];exact hf,fun _=>by rw[Qr hA];exact hL⟩;all_goals rw[Qr hA,hL]at a;cases a
end
theorem K7{P:Program}{T E:TypeId}{i0:TypeInfo}{z:Value}{Hd:Nat}{ops:Array Oper}{rest:List Oper}{o:Oper}{a:Act}{Q:Exit→Act→World→Prop}{W:World}{B:Nat}{R:List QC}{i n:Nat}{v u:Value}{xs:List Value}(h:QH W B R)(hi:R[i]?=some (Qb E 1 v n xs))(hgd:o.guard=none)(s x:Operand)
 (ho:o.op=.call { callee:=.builtin .append,args:=#[s,x],argTypes:=#[T,T] }) (hT:P.underlying T=some (.slice E)) (hi0:P.info? E=some i0) (hz0:i0.zero=some z) (hz1:i0.size=1) (hz2:i0.bytes=Hd) (Np:z.cells.size=1) (hby:Hd≤1000)
 (hs:a.eval s=v) (g c:Nat) (hg:g=W.heap.size) (hx:a.eval x=ς (some ⟨g,0,none⟩) 1 c) (h1:u.oneCell'=true) (hn:n≤10000000)
 (k:∀v' w',QH w' B (R.set i (Qb E 1 v' (n+1) (xs++[u])))→Below B W w'→wpList P ops Q rest (a.put o.dst v') w'):wpList P ops Q (o::rest) a (W.alloc (θ #[u] E)):=by
 subst hg;have hb:=Qz W (θ #[u] E);obtain⟨v',w',hr,hf,hb',_,_⟩:=(h.later hb).VT (P:=P) (T:=T) (g:=W.heap.size) (c:=c) (cs:=[u]) hi o.type hT hi0 hz0 hz1 hz2 Np δ hby rfl (Vk W [u] E) (fun q hq=>by rw[List.mem_singleton.1 hq];exact h1) hn;exact Y8 hgd s x ho hs hx hr (k v' w' hf ((hb.mono h.B).trans hb'))
