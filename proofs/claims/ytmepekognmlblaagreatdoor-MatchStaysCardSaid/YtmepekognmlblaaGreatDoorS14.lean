import Derived.Test.YtmepekognmlblaaGreatDoorS13
set_option linter.unusedVariables false
open _root_.List renaming getD_eq_getElem?_getD→QX,mem_cons_self→XG,mem_cons_of_mem→UN,mem_cons→Tg
namespace Go.Proofs.YtmepekognmlblaaGreatDoor
namespace Match
open Tree Shape
section
variable {a b:Sd}{M M':St}{xs ys:List Nat}{i j:Nat}
theorem Qpd{row:List Nat}{v j:Nat}(hs:row.Pairwise (·<·))(h:find row ((v:Nat):Int)=some j):row[j]?=some v:=by
 unfold find at h;by_cases hm:row.any (fun q=>((q:Nat):Int)==((v:Nat):Int))=true
 ·rw[if_pos hm]at h;injection h with h;obtain⟨q,hq,he⟩:=List.any_eq_true.1 hm;simp only[beq_iff_eq]at he;obtain rfl:q=v:=ω
  clear hm he
  have hc:∀(l:List Nat),l.Pairwise (·< ·)→q∈l→l[l.countP fun p=>decide (((p:Nat):Int)<((q:Nat):Int))]? = some q:=by
   intro l
   induction l with
   |nil=>intro _ h;cases h
   |cons p r ih =>
    intro hp hm;rw[List.pairwise_cons]at hp;rw[List.countP_cons];rcases List.mem_cons.1 hm with rfl|hm
    ·have hz:r.countP (fun p=>decide (((p:Nat):Int)<((q:Nat):Int)))=0:=by
      rw[List.countP_eq_zero];intro z hz;have:=hp.1 z hz;simp;omega
     rw[hz,if_neg ψ];rfl
    ·have:=hp.1 q hm;rw[if_pos (by simpa using this),List.getElem?_cons_succ];exact ih hp.2 hm
  rw[←h];exact hc row hs hq
 ·rw[if_neg hm]at h;cases h
theorem ig{s:Sd}{L:List Int}{row:List Nat}{m i:Nat}:i∈NJ s L row m↔i<row.length∧QQ L (row.getD i 0)=true∧s.no (row.getD i 0)=m:=by
 unfold NJ;rw[List.mem_filter,List.mem_range];simp
theorem Yb{l:List Nat}(h:l.length=1):l.getD 0 0∈l∧∀x∈l,x=l.getD 0 0:=by
 obtain⟨x,rfl⟩:=List.length_eq_one_iff.1 h;exact⟨ψ,fun y hy=>by simpa using hy⟩
def bZ(a b:Sd)(M:St)(xs ys:List Nat)(i j:Nat):Prop :=
 i<xs.length∧j<ys.length∧(Pd M.1 (xs.getD i 0) (ys.getD j 0)∨(QQ M.1 (xs.getD i 0)=true∧QQ M.2 (ys.getD j 0)=true∧a.no (xs.getD i 0)=b.no (ys.getD j 0)∧(∀i',i'<xs.length→QQ M.1 (xs.getD i' 0)=true→a.no (xs.getD i' 0)=a.no (xs.getD i 0)→i'=i)))
theorem fE{s:Sd}(h:xs.Pairwise fun q q'=>q+s.sz q≤q'):xs.Pairwise (·<·):=h.imp fun{p q} PJ=>by have:=s.ES p;omega
theorem Un(h:Inv a b M)(hr:Rows a b M xs ys)(hi:i<xs.length){p:NP}(hp:p∈V2 a b M xs ys i):p.1=i∧bZ a b M xs ys i p.2∧V2 a b M xs ys i=[p]:=by
 unfold V2 at hp⊢;by_cases hf:QQ M.1 (xs.getD i 0)=true
 ·rw[if_pos hf]at hp⊢;by_cases hc:(NJ a M.1 xs (a.no (xs.getD i 0))).length=1∧(NJ b M.2 ys (a.no (xs.getD i 0))).length=1
  ·rw[if_pos hc]at hp⊢;obtain rfl:=List.mem_singleton.1 hp;obtain⟨m1,u1⟩:=Yb hc.1;obtain⟨m2,u2⟩:=Yb hc.2;obtain⟨q1,q2,q3⟩:=ig.1 m2;refine⟨rfl,⟨hi,q1,.inr ⟨hf,q2,q3.symm,fun i' h1 h2 h3=>?_⟩⟩,rfl⟩;exact(u1 i' (ig.2 ⟨h1,h2,h3⟩)).trans (u1 i (ig.2 ⟨hi,hf,rfl⟩)).symm
  ·rw[if_neg hc]at hp;cases hp
 ·rw[if_neg hf]at hp⊢;obtain⟨v,hv⟩:=h.part.Rw (hr.lt.1 _ (QJ hi)) (Qo9 hf);have he:M.1.getD (xs.getD i 0) 0=((v:Nat):Int):=by rw[QX,hv];rfl
  rw[he]at hp⊢;cases Mj:find ys ((v:Nat):Int)with
  |none=>rw[Mj]at hp;cases hp
  |some j =>
   rw[Mj]at hp;simp only at hp⊢;obtain rfl:=List.mem_singleton.1 hp;have hj:=Qpd (fE hr.apart.2) Mj;have hjl:=(List.getElem?_eq_some_iff.1 hj).1;have hjd:ys.getD j 0=v:=by rw[QX,hj];rfl
   exact⟨rfl,⟨hi,hjl,.inl (by rw[hjd];exact hv)⟩,rfl⟩
theorem rB(h:Inv a b M)(hr:Rows a b M xs ys){p:NP}(hp:p∈Kq a b M xs ys):bZ a b M xs ys p.1 p.2:=by
 unfold Kq at hp;obtain⟨i,hi,hp⟩:=List.mem_flatMap.1 hp;rw[List.mem_range]at hi;obtain⟨h1,h2,_⟩:=Un h hr hi hp;rw[h1];exact h2
theorem iu(h:Inv a b M)(hr:Rows a b M xs ys):(Kq a b M xs ys).Pairwise fun p q=>p.1<q.1:=by
 unfold Kq;rw[List.pairwise_flatMap];refine⟨fun i hi=>?_,?_⟩
 ·rw[List.mem_range]at hi;cases hl:V2 a b M xs ys i with
  |nil=>exact List.Pairwise.nil
  |cons p r=>have:=(Un h hr hi (p:=p) (by rw[hl];exact XG)).2.2;rw[hl]at this;rw[this];exact List.pairwise_singleton _ _
 ·refine(List.Pairwise.and_mem.1 List.pairwise_lt_range).imp ?_;rintro i i' ⟨hi,hi',hlt⟩ p hp q hq;rw[List.mem_range]at hi hi';rw[(Un h hr hi hp).1,(Un h hr hi' hq).1];exact hlt
theorem Qte{l:List Nat}(hs:l.Pairwise (·<·)){i j:Nat}(hi:i<l.length)(hj:j<l.length)(h:l.getD i 0=l.getD j 0):i=j:=by
 rw[QX,QX,List.getElem?_eq_getElem hi,List.getElem?_eq_getElem hj]at h;simp only[Option.getD_some]at h;rcases Nat.lt_trichotomy i j with h1|h1|h1
 ·have:=List.pairwise_iff_getElem.1 hs i j hi hj h1;omega
 ·exact h1
 ·have:=List.pairwise_iff_getElem.1 hs j i hj hi h1;omega
theorem iy(h:Inv a b M)(hr:Rows a b M xs ys):(Kq a b M xs ys).Pairwise fun p q=>p.2≠q.2:=by
 refine(List.Pairwise.and_mem.1 (iu h hr)).imp ?_;rintro p q ⟨hp,hq,hlt⟩ he;have s1:=rB h hr hp;have s2:=rB h hr hq;rw[←he]at s2;obtain⟨i1,j1,c1⟩:=s1;obtain⟨i2,j2,c2⟩:=s2;rcases c1 with c1|⟨f1,g1,n1,u1⟩
 ·rcases c2 with c2|⟨f2,g2,n2,u2⟩
  ·have:=((h.part.two _ _).1 c1).eq ((h.part.two _ _).1 c2);have:=Qte (fE hr.apart.1) i1 i2 this;omega
  ·rw[((h.part.two _ _).1 c1).free]at g2;cases g2
 ·rcases c2 with c2|⟨f2,g2,n2,u2⟩
  ·rw[((h.part.two _ _).1 c2).free]at g1;cases g1
  ·have:=u1 q.1 i2 f2 (n2.trans n1.symm);omega
theorem Ee{l:List Nat}{f t i:Nat}{x:Nat}(h:x∈(l.take t).drop f):∃i,f≤i∧i<t∧i<l.length∧l.getD i 0=x:=by
 obtain⟨i,hi⟩:=List.getElem?_of_mem h;rw[List.getElem?_drop,List.getElem?_take]at hi;by_cases hc:f+i<t
 ·rw[if_pos hc]at hi;exact⟨f+i,ω,hc,(List.getElem?_eq_some_iff.1 hi).1,by rw[QX,hi];rfl⟩
 ·rw[if_neg hc]at hi;cases hi
theorem Qd3(hn:ZM a b)(M0:St)(h0:Inv a b M0):∀(L:List NP)(M:St)(f g:Nat),Inv a b M→Ext M0 M→Rows a b M xs ys→vA L→(∀p∈L,bZ a b M0 xs ys p.1 p.2∧f≤p.1∧g≤p.2)→
 (∀i,f≤i→i<xs.length→M.1[xs.getD i 0]?=M0.1[xs.getD i 0]?)→(∀j,g≤j→j<ys.length→M.2[ys.getD j 0]?=M0.2[ys.getD j 0]?)→YS a b M (X8 a b xs ys M f g L) xs ys
 |[],M,f,g,h,_,hr,_,_,_,_=>by
  unfold X8;exact(TD hn h (hr.sub (List.drop_sublist f xs) (List.drop_sublist g ys))).more (fun _=>List.mem_of_mem_drop) (fun _=>List.mem_of_mem_drop)
 |p::r,M,f,g,h,he,hr,hR,hL,k1,k2=>by
  obtain⟨⟨hi,hj,hs⟩,hf,hg⟩:=hL p XG;have hr1:Rows a b M ((xs.take p.1).drop f) ((ys.take p.2).drop g):=hr.sub ((List.drop_sublist _ _).trans (List.take_sublist _ _)) ((List.drop_sublist _ _).trans (List.take_sublist _ _));have d1:=TD hn h hr1
  have o1:∀i,p.1≤i→i<xs.length→(YV a b M ((xs.take p.1).drop f) ((ys.take p.2).drop g)).1[xs.getD i 0]? = M0.1[xs.getD i 0]? := fun i h1 h2=>by
   rw[d1.o1 _ fun x hx=>?_]
   ·exact k1 i ω h2
   ·obtain⟨i',q1,q2,q3,rfl⟩:=Ee (i:=0) hx;exact VR hr.apart.1 ω q3 h2
  have o2:∀j,p.2≤j→j<ys.length→(YV a b M ((xs.take p.1).drop f) ((ys.take p.2).drop g)).2[ys.getD j 0]? = M0.2[ys.getD j 0]? := fun j h1 h2=>by
   rw[d1.o2 _ fun x hx=>?_]
   ·exact k2 j ω h2
   ·obtain⟨i',q1,q2,q3,rfl⟩:=Ee (i:=0) hx;exact VR hr.apart.2 ω q3 h2
  have Tf:=d1.more (xs':=xs) (ys':=ys) (fun _ hx=>List.mem_of_mem_take (List.mem_of_mem_drop hx)) (fun _ hx=>List.mem_of_mem_take (List.mem_of_mem_drop hx));have hr2:=hr.ext h Tf.ext Tf.inv;have hst:XN a b (YV a b M ((xs.take p.1).drop f) ((ys.take p.2).drop g)) (xs.getD p.1 0) (ys.getD p.2 0):=by
   rcases hs with hs|⟨f1,f2,hno,_⟩
   ·exact .inl ((jF (o1 _ (Nat.le_refl _) hi)).2 hs)
   ·have hl:=hr.lt;refine hr2.step (QJ hi) (QJ hj) (by rw[XU (o1 _ (Nat.le_refl _) hi)];exact f1) (by rw[XU (o2 _ (Nat.le_refl _) hj)];exact f2) ?_;rw[(hn.alike _ _ (hl.1 _ (QJ hi)) (hl.2 _ (QJ hj))).1 (by unfold JU;rw[hno];simp)]
  have d2:=ET hn Tf.inv (QJ hi) (QJ hj) hst;obtain⟨_,_,_,_,_,q1,q2⟩:=XH hn Tf.inv hst;unfold X8;have hR':=List.pairwise_cons.1 hR;refine(Tf.trans d2).trans (Qd3 hn M0 h0 r _ _ _ d2.inv ((he.trans Tf.ext).trans d2.ext) (hr2.ext Tf.inv d2.ext d2.inv) hR'.2 (fun q hq=>?_) (fun i h1 h2=>?_) fun j h1 h2=>?_)
  ·have:=hR'.1 q hq;exact⟨(hL q (List.mem_cons_of_mem _ hq)).1,ω,ω⟩
  ·rw[q1 _ (VR hr.apart.1 ω hi h2)];exact o1 i ω h2
  ·rw[q2 _ (VR hr.apart.2 ω hj h2)];exact o2 j ω h2
theorem Ĺ(hn:ZM a b)(h:Inv a b M)(hr:Rows a b M xs ys):YS a b M (Ec a b M xs ys) xs ys:=by
 obtain⟨h1,h2⟩:=Qdz (iu h hr) (iy h hr);unfold Ec;exact Qd3 hn M h _ M 0 0 h (Ext.refl _) hr h1 (fun p hp=>⟨rB h hr (h2 p hp),Nat.zero_le _,Nat.zero_le _⟩) (fun _ _ _=>rfl) (fun _ _ _=>rfl)
theorem J2(hn:ZM a b):∀(f:Nat)(M:St)(x:Nat),x+f≤a.n→Inv a b M→Inv a b (ZJ a b f M x)∧Ext M (ZJ a b f M x)
 |0,M,x,_,h=>⟨h,Ext.refl _⟩
 |f+1,M,x,hf,h=>by
  unfold ZJ;by_cases hc:0≤M.1.getD x 0∧JU a b x (M.1.getD x 0).toNat=false
  ·rw[if_pos hc];have XM:QQ M.1 x=false:=by unfold QQ;rw[decide_eq_false_iff_not];omega
   obtain⟨y,hy⟩:=h.part.Rw ω XM;have he:M.1.getD x 0=((y:Nat):Int):=by rw[QX,hy];rfl
   rw[he,Int.toNat_natCast];have d:=Ĺ hn h ⟨x,y,List.Sublist.refl _,List.Sublist.refl _,XM,((h.part.two _ _).1 hy).free⟩;obtain⟨h1,h2⟩:=J2 hn f _ (x+1) ω d.inv;exact⟨h1,d.ext.trans h2⟩
  ·rw[if_neg hc];exact J2 hn f M (x+1) ω h
end
section
variable {a b:Sd}{M M':St}
theorem Jk(a b:Sd)(z:Nat):(z<a.n→QQ (Kz a b).1 z=true)∧(z<b.n→QQ (Kz a b).2 z=true):=by
 unfold QQ Kz
 constructor <;> intro h <;> rw[QX,List.getElem?_replicate,if_pos h] <;> rfl
theorem U2(a b:Sd)(x y:Nat):¬Pd (Kz a b).1 x y∧¬Pd (Kz a b).2 x y:=by
 unfold Pd Kz
 constructor <;> rw[List.getElem?_replicate] <;> split <;> simp <;> omega
theorem iR(a b:Sd):Part a b (Kz a b) :=
 ⟨by simp[Kz],by simp[Kz],fun x hx=>.inl ((Jk a b x).1 hx),fun y hy=>.inl ((Jk a b y).2 hy),fun x y=>⟨fun h=>absurd h (U2 a b x y).1,fun h=>absurd h (U2 a b y x).2⟩,fun x y h=>absurd h (U2 a b x y).1⟩
theorem yL(h:a.Ok):a.sz 0=a.n:=by
 have:=Sd.ZK h.pos;obtain⟨k,x,y,c,e⟩:=h;unfold Sd.nd at this;rw[e,Gm]at this;injection this with this;rw[Sd.GN,e,Q4];unfold Sd.sz;rw[←this];rfl
def M1(a b:Sd):St:=QK a b (Kz a b) 0 0
theorem yw(hn:ZM a b)(hk:(a.at_ 0).k=(b.at_ 0).k):Inv a b (M1 a b)∧Pd (M1 a b).1 0 0:=by
 have h0:=hn.EG.pos;have h1:=hn.Hq.pos;obtain⟨c0,d1,d2,c1,c2⟩:=rJ hn h0 h1;have e1:0+Q2 a b 0 0≤(Kz a b).1.length:=by rw[(iR a b).l1];exact c1
 have e2:0+Q2 a b 0 0≤(Kz a b).2.length:=by rw[(iR a b).l2];exact c2
 obtain⟨hP,_⟩:=om hn (iR a b) h0 h1 hk (fun i hi=>(Jk a b _).1 ω) (fun i hi=>(Jk a b _).2 ω);have zP:Pd (M1 a b).1 0 0:=G4 (i:=0) (x:=0) (y:=0) c0 ω
 have sh:∀(s:Sd)(L:List Int)(c:Nat),s.Ok→L.length=s.n→(∀z,z<s.n→QQ L z=true)→(c=1∨c=s.n)→Shut s (Kv L 0 0 c):=fun s L c ho hl hf hc p q hq I1=>by
  have hp:=Sd.KE hq;have hm:=Sd.VS hp hq;by_cases hr:0≤p∧p<0+c
  ·rw[bS hr ω]at I1;cases I1
  ·rw[Kx ω];exact hf q hm.2.2
 have hc1:Q2 a b 0 0=1∨Q2 a b 0 0=a.n:=by unfold Q2;rw[yL hn.EG];split <;> simp
 have hc2:Q2 a b 0 0=1∨Q2 a b 0 0=b.n:=by
  unfold Q2;by_cases e:JU a b 0 0=true
  ·rw[if_pos e,hn.size h0 h1 e,yL hn.Hq];exact .inr rfl
  ·rw[if_neg e];exact .inl rfl
 refine⟨⟨hP,sh a _ _ hn.EG (by simp[Kz]) (fun z hz=>(Jk a b z).1 hz) hc1,sh b _ _ hn.Hq (by simp[Kz]) (fun z hz=>(Jk a b z).2 hz) hc2,?_⟩,zP⟩;intro z v hv ha i hi;rcases(Jm e1).1 hv with⟨j,q1,rfl,rfl⟩|⟨_,q2⟩
 ·refine(Jm e1).2 (.inl ⟨j+i,?_,ω,ω⟩);rw[Nat.zero_add]at hi;have hs:=Sd.sub (s:=a) (x:=j) ω;unfold Q2 at q1⊢;by_cases e:JU a b 0 0=true
  ·rw[if_pos e,yL hn.EG]at q1⊢;omega
  ·rw[if_neg e]at q1⊢;obtain rfl:j=0:=ω
   exact absurd ha e
 ·exact absurd q2 (U2 a b z v).1
theorem J1{s:Sd}{k:Ky}{p:Nat}:p∈items s k↔p∈s.kid 0∧keyOf s p=some k:=by unfold items;rw[List.mem_filter];simp
def o7(a b:Sd)(M:St)(x:Nat):Prop:=∀k,keyOf a x=some k→(items a k).length=1→(items b k).length=1→XN a b M x ((items b k).getD 0 0)
theorem Ď{s:Sd}{p x z:Nat}(hx:x∈s.kid p)(hz:z∈s.kid p)(hne:x≠z):¬(x≤z∧z<x+s.sz x):=by
 obtain⟨i,hi,rfl⟩:=List.getElem_of_mem hx;obtain⟨j,hj,rfl⟩:=List.getElem_of_mem hz;have:=VR (s.JT p) (show i≠j from fun e=>hne (by subst e;rfl)) hi hj;rw[QX,QX,List.getElem?_eq_getElem hi,List.getElem?_eq_getElem hj]at this;exact this
theorem Qn3(hn:ZM a b)(h:Inv a b M){x y x0 y0:Nat}(hs:XN a b M x y)(h0:XN a b M x0 y0)(o1:¬(x0≤x∧x<x0+a.sz x0))(o2:¬(y0≤y∧y<y0+b.sz y0)):XN a b (QK a b M x0 y0) x y:=by
 obtain⟨h1,h2,_,_,_,q1,q2⟩:=XH hn h h0;rcases hs with hs|⟨s1,s2,s3,s4,s5,s6,s7⟩
 ·exact .inl (h2.1 _ _ hs)
 ·exact .inr ⟨s1,s2,s3,by rw[XU (q1 x o1)];exact s4,by rw[XU (q2 y o2)];exact s5,fun p hp=>h2.Ox h (Sd.KE hp) (s6 p hp),fun p hp=>h2.Ow h (Sd.KE hp) (s7 p hp)⟩
theorem Gy(hn:ZM a b):∀(l:List Nat)(M:St),Inv a b M→l.Nodup→(∀x∈l,x∈a.kid 0∧o7 a b M x)→
 Inv a b (Zw a b M l)∧Ext M (Zw a b M l)∧∀x∈l,∀k,keyOf a x=some k→(items a k).length=1→(items b k).length=1→Pd (Zw a b M l).1 x ((items b k).getD 0 0)
 |[],M,h,_,_=>⟨h,Ext.refl _,fun x hx=>by cases hx⟩
 |x::r,M,h,hnd,hl=>by
  rw[List.nodup_cons]at hnd;unfold Zw;cases hk:keyOf a x with
  |none =>
   simp only;obtain⟨h1,h2,h3⟩:=Gy hn r M h hnd.2 fun z hz=>hl z (UN _ hz)
   refine⟨h1,h2,fun z hz k e=>?_⟩;rcases List.mem_cons.1 hz with rfl|hz
   ·rw[hk]at e;cases e
   ·exact h3 z hz k e
  |some k =>
   simp only;by_cases hc:(items a k).length=1∧(items b k).length=1
   ·rw[if_pos hc];have hs:=(hl x XG).2 k hk hc.1 hc.2;obtain⟨h1,h2,h3,_⟩:=XH hn h hs;obtain⟨m1,u1⟩:=Yb hc.1;obtain⟨m2,u2⟩:=Yb hc.2;have hy:=J1.1 m2;have hxk:=(hl x XG).1
    obtain⟨g1,g2,g3⟩:=Gy hn r _ h1 hnd.2 fun z hz=>by
     obtain⟨z1,z2⟩:=hl z (UN _ hz);refine⟨z1,fun k' e1 e2 e3=>?_⟩;have hne:x≠z:=fun e=>hnd.1 (e ▸ hz)
     obtain⟨m3,u3⟩:=Yb e3;have hy':=J1.1 m3;refine Qn3 hn h (z2 k' e1 e2 e3) hs (Ď hxk z1 hne) (Ď hy.1 hy'.1 fun e=>?_);rw[e,hy'.2]at hy;have hkk:k'=k:=Option.some.inj hy.2;subst hkk;exact hne ((u1 x (J1.2 ⟨hxk,hk⟩)).trans (u1 z (J1.2 ⟨z1,e1⟩)).symm)
    refine⟨g1,h2.trans g2,fun z hz k' e1 e2 e3=>?_⟩;rcases List.mem_cons.1 hz with rfl|hz
    ·rw[hk]at e1;obtain rfl:=Option.some.inj e1;exact g2.1 _ _ h3
    ·exact g3 z hz k' e1 e2 e3
   ·rw[if_neg hc];obtain⟨h1,h2,h3⟩:=Gy hn r M h hnd.2 fun z hz=>hl z (UN _ hz)
    refine⟨h1,h2,fun z hz k' e e2 e3=>?_⟩;rcases List.mem_cons.1 hz with rfl|hz
    ·rw[hk]at e;obtain rfl:=Option.some.inj e;exact absurd ⟨e2,e3⟩ hc
    ·exact h3 z hz k' e e2 e3
theorem iU(s:Sd)(p:Nat):(s.kid p).Nodup:=(s.JT p).imp fun{x y} h=>by have:=s.ES x;omega
theorem iZ(hn:ZM a b)(e:JU a b 0 0=true):a.T=b.T:=by
 have h:=(hn.alike 0 0 hn.EG.pos hn.Hq.pos).1 e;have h1:=Sd.ZK hn.EG.pos;have h2:=Sd.ZK hn.Hq.pos;rw[h]at h1;obtain⟨k,x,y,c,e1⟩:=hn.EG;obtain⟨k',x',y',c',e2⟩:=hn.Hq;unfold Sd.nd at h1 h2;rw[e1,Gm]at h1;rw[e2,Gm]at h2;have:=h1.trans h2.symm;simp only[List.getElem?_cons_zero,Option.some.injEq,Nd.mk.injEq]at this;rw[e1,e2,this.1,this.2.1,this.2.2.1,this.2.2.2]
theorem Qup(hn:ZM a b)(e:JU a b 0 0=true){x:Nat}(hx:x<a.n):a.no x=b.no x:=by
 have ht:=iZ hn e;have hnn:a.n=b.n:=by rw[Sd.GN,Sd.GN,ht]
 have:=(hn.alike x x hx ω).2 (by unfold Sd.at_ Sd.nd;rw[ht]);unfold JU at this;simpa using this
theorem rM(hn:ZM a b)(e:JU a b 0 0=true)(x:Nat):a.kid x=b.kid x:=by unfold Sd.kid;rw[iZ hn e]
theorem Ž{α:Type}{f g:α→Nat→α}:∀(l:List Nat)(z:α),(∀q∈l,∀u,f u q=g u q)→l.foldl f z=l.foldl g z
 |[],z,_=>rfl
 |q::r,z,h=>by rw[List.foldl_cons,List.foldl_cons,h q XG,Ž r _ fun q hq=>h q (UN _ hq)]
theorem Qrm(hn:ZM a b)(e:JU a b 0 0=true)(x:Nat):keyOf a x=keyOf b x:=by
 have ht:=iZ hn e;have ha:a.at_ x=b.at_ x:=by unfold Sd.at_ Sd.nd;rw[ht]
 have hr:recv a x=recv b x:=by
  unfold recv;rw[rM hn e,rM hn e];refine Ž _ _ fun q hq u=>?_
  rw[←rM hn e]at hq;rw[Qup hn e (Sd.VS (Sd.KE hq) hq).2.2]
 unfold keyOf;rw[ha,hr]
theorem Qko(hn:ZM a b)(e:JU a b 0 0=true)(k:Ky):items a k=items b k:=by
 unfold items;rw[rM hn e];refine List.filter_congr fun p _=>?_
 rw[Qrm hn e]
theorem bX(hn:ZM a b)(hk:(a.at_ 0).k=(b.at_ 0).k){x:Nat}(hx:x∈a.kid 0):o7 a b (M1 a b) x:=by
 intro k e1 e2 e3;obtain⟨m2,u2⟩:=Yb e3;have hy:=J1.1 m2;have h0:=hn.EG.pos;have h1:=hn.Hq.pos;have Fi:=Sd.VS h0 hx;have nE:=Sd.VS h1 hy.1;by_cases e:JU a b 0 0=true
 ·have hxy:x=(items b k).getD 0 0:=by
   rw[←Qko hn e];exact(Yb e2).2 x (J1.2 ⟨hx,e1⟩)
  rw[←hxy];refine .inl ?_;have hC:Q2 a b 0 0=a.n:=by unfold Q2;rw[if_pos e,yL hn.EG]
  have:=G4 (M:=(Kz a b).1) (x:=0) (y:=0) (c:=Q2 a b 0 0) (i:=x) (by rw[hC];exact Fi.2.2) (by simp[Kz];omega);rwa[Nat.zero_add]at this
 ·have hC:Q2 a b 0 0=1:=by unfold Q2;rw[if_neg e]
  have hkk:(a.at_ x).k=(b.at_ ((items b k).getD 0 0)).k:=by
   have kk:∀(s:Sd)(p:Nat)(k:Ky),keyOf s p=some k→(s.at_ p).k=k.1:=fun s p k h=>by
    unfold keyOf at h;split at h
    ·rename_i q;injection h with h;rw[←h,q]
    ·split at h
     ·injection h with h;rw[←h]
     ·split at h
      ·rename_i q;injection h with h;rw[←h,q]
      ·cases h
   rw[kk a x k e1,kk b _ k hy.2]
  have g1:∀z,0<z→QQ (M1 a b).1 z=QQ (Kz a b).1 z:=fun z hz=>by unfold M1 QK;rw[hC];exact Kx ω
  have g2:∀z,0<z→QQ (M1 a b).2 z=QQ (Kz a b).2 z:=fun z hz=>by unfold M1 QK;rw[hC];exact Kx ω
  obtain⟨hI,hP⟩:=yw hn hk;refine .inr ⟨Fi.2.2,nE.2.2,hkk,by rw[g1 x Fi.1];exact(Jk a b x).1 Fi.2.2,by rw[g2 _ nE.1];exact(Jk a b _).2 nE.2.2,fun p hp=>?_,fun p hp=>?_⟩
  ·rw[Sd.XK hp hx];exact hP.free
  ·rw[Sd.XK hp hy.1];exact((hI.part.two _ _).1 hP).free
def Open(s:Sd)(L:List Int)(m:Nat):Prop:=∀z,z<s.n→s.sz z≤m→QQ L z=true→∀w,z≤w→w<z+s.sz z→QQ L w=true
theorem Į{s:Sd}{L:List Int}{m x y:Nat}(h:Open s L m)(hx:x<s.n)(hm:s.sz x≤m)(hL:L.length=s.n):Open s (Kv L x y (s.sz x)) (s.sz x):=by
 intro z hz hsz hf w h1 h2;have mg:=Sd.sub hx;have hsz':=Sd.sub hz;have hout:¬(x≤z∧z<x+s.sz x):=fun hr=>by rw[bS hr ω]at hf;cases hf
 rw[Kx hout]at hf
 have hw:¬(x≤w∧w<x+s.sz x):=fun hr=>by
  have hzx:z<x:=ω
  have:=Sd.nest hz (show z≤x by omega) ω;omega
 rw[Kx hw];exact h z hz ω hf w h1 h2
theorem Open.less{s:Sd}{L:List Int}{m m':Nat}(h:Open s L m)(hm:m'≤m):Open s L m':=fun z hz hs=>h z hz ω
structure Pk(a b:Sd)(M:St)(m:Nat):Prop where
 part:Part a b M
 oa:Open a M.1 m
 ob:Open b M.2 m
theorem Qon(hn:ZM a b){m x y:Nat}(h:Pk a b M m)(hx:x<a.n)(hy:y<b.n)(hm:a.sz x≤m)(e:JU a b x y=true)(f1:QQ M.1 x=true)(f2:QQ M.2 y=true):Pk a b (QK a b M x y) (a.sz x)∧Ext M (QK a b M x y):=by
 have hC:Q2 a b x y=a.sz x:=by unfold Q2;rw[if_pos e]
 have hS:=hn.size hx hy e;have hk:(a.at_ x).k=(b.at_ y).k:=by rw[(hn.alike x y hx hy).1 e]
 obtain⟨p1,p2⟩:=om hn h.part hx hy hk (fun i hi=>h.oa x hx hm f1 _ ω ω) (fun i hi=>h.ob y hy ω f2 _ ω ω);refine⟨⟨p1,?_,?_⟩,p2⟩
 ·unfold QK;rw[hC];exact Į h.oa hx hm h.part.l1
 ·unfold QK;rw[hC,hS];exact Į h.ob hy ω h.part.l2
theorem fH(hn:ZM a b)(KP XS:List Nat){m x:Nat}(hx:x<a.n)(hm:a.sz x≤m):∀(l:List Nat)(M:St),Pk a b M m→QQ M.1 x=true→(∀y∈l,y<b.n∧b.no y=a.no x)→
 Pk a b (Ys a b KP XS x M l) (a.sz x)∧Ext M (Ys a b KP XS x M l)
 |[],M,h,_,_=>⟨⟨h.part,h.oa.less hm,h.ob.less hm⟩,Ext.refl _⟩
 |y::r,M,h,f1,hl=>by
  unfold Ys;split
  ·rename_i hc
   simp only[Bool.and_eq_true]at hc;obtain⟨y1,y2⟩:=hl y XG;exact Qon hn h hx y1 hm (by unfold JU;rw[y2];simp) f1 hc.1
  ·exact fH hn KP XS hx hm r M h f1 fun y hy=>hl y (UN _ hy)
theorem iq(hn:ZM a b)(KP XS:List Nat)(sp:Nat→Nat→List Nat)(hsp:∀o q,∀y∈sp o q,y<b.n∧b.no y=q):∀(l:List Nat)(M:St)(m:Nat),Pk a b M m→(∀x∈l,x<a.n∧a.sz x≤m)→(l.Pairwise fun p q=>a.sz q≤a.sz p)→
 Part a b (Yc a b KP XS sp M l)∧Ext M (Yc a b KP XS sp M l)
 |[],M,m,h,_,_=>⟨h.part,Ext.refl _⟩
 |x::r,M,m,h,hl,hs=>by
  rw[List.pairwise_cons]at hs;obtain⟨x1,x2⟩:=hl x XG;unfold Yc;by_cases hf:QQ M.1 x=true
  ·rw[if_pos hf];obtain⟨h1,h2⟩:=fH hn KP XS x1 x2 _ M h hf (hsp _ _);obtain⟨g1,g2⟩:=iq hn KP XS sp hsp r _ (a.sz x) h1 (fun z hz=>⟨(hl z (UN _ hz)).1,hs.1 z hz⟩) hs.2;exact⟨g1,h2.trans g2⟩
  ·rw[if_neg hf];exact iq hn KP XS sp hsp r M m h (fun z hz=>hl z (UN _ hz)) hs.2
theorem Ub{s:Sd}{p z:Nat}:∀l:List Nat,z∈U6 s p l↔z=p∨z∈l
 |[]=>by simp[U6]
 |q::r=>by
  unfold U6;split
  ·rw[Tg,Ub r,Tg]
   constructor <;> rintro(h|h|h) <;> simp[h]
  ·rw[Tg]
theorem ð{s:Sd}{p:Nat}:∀l:List Nat,(l.Pairwise fun p q=>s.sz q≤s.sz p)→(U6 s p l).Pairwise fun p q=>s.sz q≤s.sz p
 |[],_=>List.pairwise_singleton _ _
 |q::r,h=>by
  have h':=List.pairwise_cons.1 h;unfold U6;by_cases hc:ahead s q p=true
  ·rw[if_pos hc,List.pairwise_cons];refine⟨fun z hz=>?_,ð r h'.2⟩;rcases(Ub r).1 hz with rfl|hz
   ·unfold ahead at hc;simp at hc;omega
   ·exact h'.1 z hz
  ·rw[if_neg hc,List.pairwise_cons];refine⟨fun z hz=>?_,h⟩;have hqp:s.sz q≤s.sz p:=by unfold ahead at hc;simp at hc;omega
   rcases List.mem_cons.1 hz with rfl|hz
   ·exact hqp
   ·have:=h'.1 z hz;omega
theorem E5{s:Sd}(l:List Nat):((J7 s l).Pairwise fun p q=>s.sz q≤s.sz p)∧∀z,z∈J7 s l ↔ z∈l:=by
 have h:∀(l acc:List Nat),(acc.Pairwise fun p q=>s.sz q≤s.sz p)→((l.foldl (fun acc p=>U6 s p acc) acc).Pairwise fun p q=>s.sz q≤s.sz p)∧∀z,z∈l.foldl (fun acc p=>U6 s p acc) acc ↔ z∈acc∨z∈l:=by
  intro l
  induction l with
  |nil=>intro acc h;exact⟨h,fun z=>ψ⟩
  |cons p r ih =>
   intro acc h;obtain⟨h1,h2⟩:=ih _ (ð (p:=p) acc h);refine⟨h1,fun z=>?_⟩;rw[List.foldl_cons,h2,Ub,Tg]
   constructor
   ·rintro((h|h)|h) <;> simp[h]
   ·rintro(h|h|h) <;> simp[h]
 obtain⟨h1,h2⟩:=h l [] List.Pairwise.nil;exact⟨h1,fun z=>by unfold J7;rw[h2];simp⟩
theorem Ut(hn:ZM a b)(h:Inv a b M):Part a b (Y9 a b M)∧Ext M (Y9 a b M):=by
 unfold Y9;refine iq hn _ _ _ (fun o q y hy=>?_) _ M (a.n+b.n) ⟨h.part,fun z hz _ hf=>Gf h.c1 hz hf,fun z hz _ hf=>Gf h.c2 hz hf⟩ (fun x hx=>?_) (E5 _).1
 ·unfold Xd at hy;rcases List.mem_append.1 hy with hy|hy
  all_goals
   rw[List.mem_filter,List.mem_range]at hy;simp at hy;exact⟨hy.1,hy.2.2.2.2⟩
 ·rw[(E5 _).2]at hx;unfold Jt at hx;rw[List.mem_filter,List.mem_range]at hx;have:=Sd.sub hx.1;exact⟨hx.1,ω⟩
theorem Qfn(hn:ZM a b)(hk:(a.at_ 0).k=(b.at_ 0).k)(rt:Bool):Part a b (V4 a b rt)∧Pd (V4 a b rt).1 0 0∧
 (rt=true→∀x∈a.kid 0,∀k,keyOf a x=some k→(items a k).length=1→(items b k).length=1→Pd (V4 a b rt).1 x ((items b k).getD 0 0)∧(JU a b x ((items b k).getD 0 0)=true→∀i,i<a.sz x→Pd (V4 a b rt).1 (x+i) ((items b k).getD 0 0+i))):=by
 obtain⟨h1,h2⟩:=yw hn hk;obtain⟨g1,g2,g3⟩:=Gy hn (a.kid 0) (M1 a b) h1 (iU a 0) fun x hx=>⟨hx,bX hn hk hx⟩
 unfold V4;cases rt with
 |false=>rw[if_neg δ];obtain⟨b1,b2⟩:=J2 hn a.n (M1 a b) 0 ω h1;obtain⟨l1,l2⟩:=Ut hn b1;exact⟨l1,(b2.trans l2).1 _ _ h2,fun h=>by cases h⟩
 |true=>rw[if_pos rfl];obtain⟨b1,b2⟩:=J2 hn a.n _ 0 ω g1;obtain⟨l1,l2⟩:=Ut hn b1;refine⟨l1,(g2.trans (b2.trans l2)).1 _ _ h2,fun _ x hx k e1 e2 e3=>?_⟩;have hp:=g3 x hx k e1 e2 e3;exact⟨(b2.trans l2).1 _ _ hp,fun e i hi=>(b2.trans l2).1 _ _ (g1.full _ _ hp e i hi)⟩
end
