import Derived.Test.YtaiihnniblibaaaGreatDoorG28
set_option linter.unusedVariables false
open _root_.List renaming length_cons→VX,length_append→JF,append_assoc→KA
namespace Go.Proofs.YtaiihnniblibaaaGreatDoor
namespace JI
open Tree QB
section
variable {nm:ByteArray→Bool}{tk:ByteArray→Int→Bool}
def Aj(nm:ByteArray→Bool)(tk:ByteArray→Int→Bool)(z N:Nat):Prop:=∀k x y c d,c.size≤N→Js k x=true→k≠8→Zg nm tk k x y c true d=true→
 ∀f rest,(sp k x c++VR::rest).length<f→SL z f d (sp k x c++VR::rest)=.ok ⟨k,x,e0,c⟩ (VR::rest)
def Cz(nm:ByteArray→Bool)(tk:ByteArray→Int→Bool)(st:Nat→List Tk→Rd Nd)(B N:Nat):Prop:=∀k x y c d,c.size≤N→Js k x=true→k≠8→Zg nm tk k x y c true d=true→
 ∀rest,(sp k x c++VR::rest).length<B→st d (sp k x c++VR::rest)=.ok ⟨k,x,e0,c⟩ (VR::rest)
theorem Aj.fuel{z N f:Nat}(h:Aj nm tk z N):Cz nm tk (SL z f) f N:=fun k x y c d h1 h2 h3 h4 rest h5=>h k x y c d h1 h2 h3 h4 f rest h5
theorem Aj.bz{z N B:Nat}(h:Aj nm tk z N):Cz nm tk (Ek z) B N:=fun k x y c d h1 h2 h3 h4 rest _=>h k x y c d h1 h2 h3 h4 _ rest (Nat.lt_succ_self _)
theorem Ex{k:Int}{x:ByteArray}(h:Js k x=true):k=5∨k=8∨k=17∨k=18∨k=19∨k=20∨k=21∨k=22∨k=23∨k=24∨k=25:=by
 unfold Js at h;simp only[Bool.or_eq_true,beq_iff_eq]at h;omega
theorem Qst(T:TxtOk nm tk){k:Int}{x y:ByteArray}{c:F}{it:Bool}{d:Nat}(hk:Js k x=true)(h8:k≠8)(hn:Zg nm tk k x y c it d=true):∃t w,sp k x c=t::w∧t.kind≠5∧QQ t [125]=false:=by
 have UT:(k=21∨k=22∨k=23)→∃t w,sp k x c=t::w∧t.kind≠5∧QQ t [125]=false:=fun h=>by
  obtain⟨t,w,e,h1⟩:=mZ T h hn;exact⟨t,w,e,(rT h1).1,qJ T h1 _ (by decide)⟩
 have hw:∀(u:List UInt8)(w:List Tk),u≠[125]→∃t w',(JP u::w)=t::w'∧t.kind≠5∧QQ t [125]=false:=fun u w hu=>⟨_,_,rfl,fun q=>(by cases q),by rw[V0];exact beq_eq_false_iff_ne.2 hu⟩
 rcases Ex hk with rfl|rfl|rfl|rfl|rfl|rfl|rfl|rfl|rfl|rfl|rfl
 ·exact hw _ _ (by decide)
 ·exact absurd rfl h8
 ·exact⟨_,_,rfl,fun q=>(by cases q),by rw[Zo];rfl⟩
 ·exact hw _ _ (by decide)
 ·exact hw _ _ (by decide)
 ·exact hw _ _ (by decide)
 ·exact UT (.inl rfl)
 ·exact UT (.inr (.inl rfl))
 ·exact UT (.inr (.inr rfl))
 ·exact hw _ _ (by decide)
 ·exact hw _ _ (by decide)
theorem rB(T:TxtOk nm tk){z N:Nat}{st:Nat→List Tk→Rd Nd}{B:Nat}(ih:Cz nm tk st B N){d:Nat}{px:ByteArray} :
  ∀(r:F)(i:Nat),r.size≤N+1→K7 Js r→Z4 nm tk 17 px true d i r=true→Yq z st (d+1) B r
 | .nil,_,_,_,_=>trivial
 | .cons k x y c r,i,hN,⟨ha,har⟩,hk=>by
  obtain⟨hn,hr⟩:=Qp hk;rw[Ga]at hN;have GW:down 17 px i k x=1:=by simp[down,Qi,more]
  rw[GW]at hn;obtain⟨hd,htx,htr,ZE,hks⟩:=Qd hn;refine⟨hd,fun h8=>?_,fun h8=>?_,rB T ih r (i+1) (by omega) har hr⟩
  ·subst h8;refine⟨gH htr,len_nil ZE,?_⟩;obtain⟨q,e⟩:=T.r x htx;unfold QQ;rw[show(Pq x true).x.toList=47::q from e];rfl
  ·obtain⟨t,w,e,h5,hb⟩:=Qst T ha h8 hn;exact⟨fun rest hB=>ih k x y c (d+1) (by omega) ha h8 hn rest hB,⟨t,w,e,h5,hb⟩⟩
theorem xa(x:ByteArray)(c:F):sp 17 x c=ZG [123]::(Qs c (Qw c)++[ZG [125]]):=rfl
theorem G8(T:TxtOk nm tk){z N:Nat}{st:Nat→List Tk→Rd Nd}{B:Nat}(ih:∀M,M<N→Cz nm tk st B M){x y:ByteArray}{c:F}{it:Bool}{d:Nat}
  (hN:c.size≤N) (hn:Zg nm tk 17 x y c it d=true) (rest:List Tk) (hB:(sp 17 x c++rest).length≤B):Zu z st d (sp 17 x c++rest)=.ok ⟨17,x,e0,c⟩ rest:=by
 obtain⟨hd,htx,htr,ZE,hks⟩:=Qd hn;obtain rfl:=Ve htx;have hall:=Eb (show Qe [.many Js] c=true from ZE);rw[xa]at hB⊢;unfold Zu;cases N with
 |zero =>
  have:c=.nil:=by
   cases c with
   |nil=>rfl
   |cons k0 x0 y0 c0 r0=>rw[Ga]at hN;omega
  subst this;rw[Yo (B:=B) .nil trivial rest hd hB,Rd.bind_ok];rfl
 |succ N=>rw[Yo (B:=B) c (rB T (ih N (Nat.lt_succ_self _)) c 0 hN hall hks) rest hd hB,Rd.bind_ok];rfl
theorem gv(z:Nat)(x:ByteArray)(c:F)(rest:List Tk):E5 (QB.hd z (sp 17 x c++rest))∧Ql (QB.hd z (sp 17 x c++rest)).x=0∧QQ (QB.hd z (sp 17 x c++rest)) [123]=true:=by
 rw[xa,List.cons_append,Qq];exact⟨Ei (by decide),by show Ql (ba [123])=0;decide +kernel,Zo _ _⟩
theorem oW(T:TxtOk nm tk){z:Nat}{st:Nat→List Tk→Rd Nd}{B:Nat}:∀(N:Nat),(∀M,M<N→Cz nm tk st B M)→∀(x y:ByteArray)(c:F)(it:Bool)(d:Nat),c.size≤N→Zg nm tk 18 x y c it d=true→
  ∀(g:Nat)(rest:List Tk),QQ (QB.hd z rest) [101,108,115,101]=false→(sp 18 x c++rest).length<g→(sp 18 x c++rest).length≤B→Ki z st g d (sp 18 x c++rest)=.ok ⟨18,x,e0,c⟩ rest:=by
 intro N
 induction N using Nat.strongRecOn with
 |_ N ft =>
  intro ih x y c it d hN hn g rest hel hg hB;obtain⟨hd,htx,htr,ZE,hks⟩:=Qd hn;obtain rfl:=Ve htx;obtain⟨k0,x0,y0,c0,r0,rfl,hp0,VZ⟩:=Zi (show Qe (.one [Qg]::.one [Qk [17]]::.one [Qk [17,18],Qk [33]]::[]) c=true from ZE);obtain⟨k1,x1,y1,c1,r1,rfl,hp1,hr1⟩:=Zi VZ;obtain⟨k2,x2,y2,c2,r2,rfl,hp2,hr2⟩:=Zi hr1;obtain rfl:=Kw hr2;obtain rfl:=Vl (Z0 hp1);obtain⟨hn0,JL⟩:=Qp hks;obtain⟨JU,PU⟩:=Qp JL;obtain⟨Ld,_⟩:=Qp PU;have hd0:down 18 e0 0 k0 x0=0:=by simp[down,Qi,more]
  have hd1:down 18 e0 (0+1) 17 x1=0:=by simp[down,Qi,more]
  rw[hd0,Nat.add_zero]at hn0;rw[hd1,Nat.add_zero]at JU;have hy0:y0=e0:=Qr (Qd hn0).2.2.1;have hy1:y1=e0:=Qr (Qd JU).2.2.1;have hy2:y2=e0:=Qr (Qd Ld).2.2.1;subst hy0;subst hy1;subst hy2;simp only[F.size]at hN;have hsp:sp 18 e0 (.cons k0 x0 e0 c0 (.cons 17 x1 e0 c1 (.cons k2 x2 e0 c2 .nil)))++rest=JP [105,102]::(sp k0 x0 c0++(sp 17 x1 c1++((if k2=33 then[]else JP [101,108,115,101]::sp k2 x2 c2)++rest))):=by show JP [105,102]::(sp k0 x0 c0++sp 17 x1 c1++(if k2=33 then[]else JP [101,108,115,101]::sp k2 x2 c2))++rest=_;simp
  rw[hsp]at hg hB⊢;obtain⟨g,rfl⟩:∃q,g=q+1:=⟨g-1,by omega⟩;simp only[VX,JF]at hg hB;have hbl:=gv z x1 c1 ((if k2=33 then[]else JP [101,108,115,101]::sp k2 x2 c2)++rest);have htext:x1=e0:=Ve (Qd JU).2.1;unfold Ki;rw[Qq,Jc hd (by rw[V0];rfl),Rd.bind_ok,K4 T (Z0 hp0) hn0 _ hbl.1 hbl.2.1,Rd.bind_ok];rw[G8 T (N:=N) ih (by omega) JU _ (by simp only[JF];omega),Rd.bind_ok];have hfin:(if QQ (QB.hd z ((if k2=33 then[]else JP [101,108,115,101]::sp k2 x2 c2)++rest)) [101,108,115,101]=true then
    (if QQ (QB.hd z ((if k2=33 then[]else JP [101,108,115,101]::sp k2 x2 c2)++rest).tail) [105,102]=true then Ki z st g (d+1) ((if k2=33 then[]else JP [101,108,115,101]::sp k2 x2 c2)++rest).tail
     else Zu z st d ((if k2=33 then[]else JP [101,108,115,101]::sp k2 x2 c2)++rest).tail)else .ok Jg ((if k2=33 then[]else JP [101,108,115,101]::sp k2 x2 c2)++rest))=.ok ⟨k2,x2,e0,c2⟩ rest:=by
   rcases Ec hp2 with h|h
   ·rcases Bb h with rfl|rfl
    ·have GW:down 18 e0 (0+1+1) 17 x2=0:=by simp[down,Qi,more]
     rw[GW,Nat.add_zero]at Ld;rw[if_neg (show ¬(17:Int)=33 by decide),List.cons_append,Qq,V0,if_pos (by decide),List.tail_cons];rw[show QQ (QB.hd z (sp 17 x2 c2++rest)) [105,102]=false by rw[xa,List.cons_append,Qq,Zo];rfl,if_neg (by decide)];rw[if_neg (show ¬(17:Int)=33 by decide)]at hB;exact G8 T (N:=N) ih (by omega) Ld rest (by simp only[VX,JF]at hB⊢;omega)
    ·have GW:down 18 e0 (0+1+1) 18 x2=1:=by simp[down,Qi,more]
     rw[GW]at Ld;rw[if_neg (show ¬(18:Int)=33 by decide),List.cons_append,Qq,V0,if_pos (by decide),List.tail_cons];rw[show QQ (QB.hd z (sp 18 x2 c2++rest)) [105,102]=true from by show QQ (QB.hd z (JP [105,102]::_)) [105,102]=true;rw[Qq,V0];rfl,if_pos rfl]
     rw[if_neg (show ¬(18:Int)=33 by decide)]at hB hg;exact ft c2.size (by omega) (fun M hM=>ih M (by omega)) x2 e0 c2 false (d+1) (Nat.le_refl _) Ld g rest hel (by simp only[VX,JF]at hg⊢;omega) (by simp only[VX,JF]at hB⊢;omega)
   ·obtain rfl:=Vl h;have GW:down 18 e0 (0+1+1) 33 x2=0:=by simp[down,Qi,more]
    rw[GW,Nat.add_zero]at Ld;obtain⟨rfl,_,rfl⟩:=FB Ld;rw[if_pos rfl,List.nil_append,hel,if_neg (by decide)];rfl
  rw[hfin,Rd.bind_ok];rfl
theorem Qvn(T:TxtOk nm tk){z N:Nat}{st:Nat→List Tk→Rd Nd}{B:Nat}(ih:∀M,M<N→Cz nm tk st B M){x y:ByteArray}{c:F}{it:Bool}{d:Nat}
  (hN:c.size≤N) (hn:Zg nm tk 19 x y c it d=true) (rest:List Tk) (hB:(sp 19 x c++rest).length≤B):Tb z st d (sp 19 x c++rest)=.ok ⟨19,x,e0,c⟩ rest:=by
 obtain⟨hd,htx,htr,ZE,hks⟩:=Qd hn;obtain rfl:=Ve htx;obtain⟨k0,x0,y0,c0,r0,rfl,hp0,VZ⟩:=Zi (show Qe (.one [Qg,Qk [33]]::.one [Qk [17]]::[]) c=true from ZE);obtain⟨k1,x1,y1,c1,r1,rfl,hp1,hr1⟩:=Zi VZ;obtain rfl:=Kw hr1;obtain rfl:=Vl (Z0 hp1);obtain⟨hn0,JL⟩:=Qp hks;obtain⟨JU,_⟩:=Qp JL;have hd0:down 19 e0 0 k0 x0=0:=by simp[down,Qi,more]
 have hd1:down 19 e0 (0+1) 17 x1=0:=by simp[down,Qi,more]
 rw[hd0,Nat.add_zero]at hn0;rw[hd1,Nat.add_zero]at JU;have hy0:y0=e0:=Qr (Qd hn0).2.2.1;have hy1:y1=e0:=Qr (Qd JU).2.2.1;subst hy0;subst hy1;simp only[F.size]at hN;have hsp:sp 19 e0 (.cons k0 x0 e0 c0 (.cons 17 x1 e0 c1 .nil))++rest=JP [102,111,114]::((if k0=33 then[]else sp k0 x0 c0)++(sp 17 x1 c1++rest)):=by show JP [102,111,114]::((if k0=33 then[]else sp k0 x0 c0)++sp 17 x1 c1)++rest=_;simp
 rw[hsp]at hB⊢;have hbl:=gv z x1 c1 rest;simp only[VX,JF]at hB;unfold Tb;rw[Qq,Jc hd (by rw[V0];rfl),Rd.bind_ok];have hfin:(if QQ (QB.hd z ((if k0=33 then[]else sp k0 x0 c0)++(sp 17 x1 c1++rest))) [123]=true then Rd.ok Jg ((if k0=33 then[]else sp k0 x0 c0)++(sp 17 x1 c1++rest))else XH z d ((if k0=33 then[]else sp k0 x0 c0)++(sp 17 x1 c1++rest)))=.ok ⟨k0,x0,e0,c0⟩ (sp 17 x1 c1++rest):=by
  rcases Ec hp0 with h|h
  ·obtain⟨t,w,e,h1,_⟩:=Uc c0.size k0 x0 e0 c0 d (Nat.le_refl _) h hn0;rw[if_neg (Fk h),show QQ (QB.hd z (sp k0 x0 c0++(sp 17 x1 c1++rest))) [123]=false by rw[e,List.cons_append,Qq];exact qJ T h1 _ (by decide),if_neg (by decide)];exact K4 T h hn0 _ hbl.1 hbl.2.1
  ·obtain rfl:=Vl h;obtain⟨rfl,_,rfl⟩:=FB hn0;rw[if_pos rfl,List.nil_append,hbl.2.2,if_pos rfl];rfl
 rw[hfin,Rd.bind_ok,G8 T (N:=N) ih (by omega) JU rest (by simp only[JF];omega),Rd.bind_ok];rfl
theorem wX(T:TxtOk nm tk)(z:Nat):∀N,Aj nm tk z N:=by
 intro N
 induction N using Nat.strongRecOn with
 |_ N ih =>
  intro k x y c d hN hk h8 hn f rest hf;obtain⟨hd,htx,htr,ZE,hks⟩:=Qd hn;obtain⟨f,rfl⟩:∃q,f=q+1:=⟨f-1,by omega⟩;have ih':∀M,M<N→Cz nm tk (SL z f) f M:=fun M hM=>(ih M hM).fuel
  have hw:∀(u v:List UInt8)(w:List Tk),QQ (QB.hd z (JP u::w)) v=(u==v):=fun u v w=>V0 u v
  have hm:∀(u v:List UInt8)(w:List Tk),QQ (QB.hd z (ZG u::w)) v=(u==v):=fun u v w=>Zo u v
  show J3 z (SL z f) d (sp k x c++VR::rest)=_
  have UT:(k=21∨k=22∨k=23)→J3 z (SL z f) d (sp k x c++VR::rest) = .ok ⟨k,x,e0,c⟩ (VR::rest):=fun h=>by
   obtain⟨t,w,e,h1⟩:=mZ T h hn;have hno:∀u∈NZ,QQ (QB.hd z (sp k x c++VR::rest)) u=false:=fun u hu=>by rw[e,List.cons_append,Qq];exact qJ T h1 u hu
   unfold J3
   rw[hno [118,97,114] (by decide),if_neg (by decide),hno [123] (by decide),if_neg (by decide),hno [105,102] (by decide),if_neg (by decide),hno [102,111,114] (by decide),if_neg (by decide),hno [114,101,116,117,114,110] (by decide),if_neg (by decide),
    hno [98,114,101,97,107] (by decide),if_neg (by decide),hno [99,111,110,116,105,110,117,101] (by decide),if_neg (by decide)]
   exact Qj5 T h hn rest
  rcases Ex hk with rfl|rfl|rfl|rfl|rfl|rfl|rfl|rfl|rfl|rfl|rfl
  ·have e:∃w,sp 5 x c++VR::rest=JP [118,97,114]::w:=⟨_,rfl⟩;obtain⟨w,e⟩:=e;unfold J3;rw[show QQ (QB.hd z (sp 5 x c++VR::rest)) [118,97,114]=true by rw[e,hw];rfl,if_pos rfl];exact tJ T hn rest
  ·exact absurd rfl h8
  ·have e:∃w,sp 17 x c++VR::rest=ZG [123]::w:=⟨_,rfl⟩;obtain⟨w,e⟩:=e;unfold J3;rw[show QQ (QB.hd z (sp 17 x c++VR::rest)) [118,97,114]=false by rw[e,hm];rfl,if_neg (by decide),show QQ (QB.hd z (sp 17 x c++VR::rest)) [123]=true by rw[e,hm];rfl,if_pos rfl];exact G8 T ih' hN hn _ (by omega)
  ·have e:∃w,sp 18 x c++VR::rest=JP [105,102]::w:=⟨_,rfl⟩;obtain⟨w,e⟩:=e;have hh:∀v,QQ (QB.hd z (sp 18 x c++VR::rest)) v=(([105,102]:List UInt8)==v):=fun v=>by rw[e,hw]
   unfold J3;rw[hh,if_neg (by decide),hh,if_neg (by decide),hh,if_pos (by decide)];exact oW T N ih' x y c true d hN hn _ _ (by rw[Qq,Cv];rfl) (Nat.lt_succ_self _) (by omega)
  ·have e:∃w,sp 19 x c++VR::rest=JP [102,111,114]::w:=⟨_,rfl⟩;obtain⟨w,e⟩:=e;have hh:∀v,QQ (QB.hd z (sp 19 x c++VR::rest)) v=(([102,111,114]:List UInt8)==v):=fun v=>by rw[e,hw]
   unfold J3;rw[hh,if_neg (by decide),hh,if_neg (by decide),hh,if_neg (by decide),hh,if_pos (by decide)];exact Qvn T ih' hN hn _ (by omega)
  ·have e:∃w,sp 20 x c++VR::rest=JP [114,101,116,117,114,110]::w:=⟨_,rfl⟩;obtain⟨w,e⟩:=e;have hh:∀v,QQ (QB.hd z (sp 20 x c++VR::rest)) v=(([114,101,116,117,114,110]:List UInt8)==v):=fun v=>by rw[e,hw]
   unfold J3;rw[hh,if_neg (by decide),hh,if_neg (by decide),hh,if_neg (by decide),hh,if_neg (by decide),hh,if_pos (by decide)];exact Qt1 T hn rest
  ·exact UT (.inl rfl)
  ·exact UT (.inr (.inl rfl))
  ·exact UT (.inr (.inr rfl))
  ·obtain rfl:=Ve htx;obtain rfl:=len_nil ZE;have e:sp 24 e0 .nil++VR::rest=JP [98,114,101,97,107]::VR::rest:=rfl;have hh:∀v,QQ (QB.hd z (JP [98,114,101,97,107]::VR::rest)) v=(([98,114,101,97,107]:List UInt8)==v):=fun v=>hw _ _ _
   rw[e];unfold J3;rw[hh,if_neg (by decide),hh,if_neg (by decide),hh,if_neg (by decide),hh,if_neg (by decide),hh,if_neg (by decide),hh,if_pos (by decide)];unfold G2;rw[Jc hd rfl,Rd.bind_ok];rfl
  ·obtain rfl:=Ve htx;obtain rfl:=len_nil ZE;have e:sp 25 e0 .nil++VR::rest=JP [99,111,110,116,105,110,117,101]::VR::rest:=rfl;have hh:∀v,QQ (QB.hd z (JP [99,111,110,116,105,110,117,101]::VR::rest)) v=(([99,111,110,116,105,110,117,101]:List UInt8)==v):=fun v=>hw _ _ _
   rw[e];unfold J3;rw[hh,if_neg (by decide),hh,if_neg (by decide),hh,if_neg (by decide),hh,if_neg (by decide),hh,if_neg (by decide),hh,if_neg (by decide),hh,if_pos (by decide)];unfold G2;rw[Jc hd rfl,Rd.bind_ok];rfl
end
section
variable {nm:ByteArray→Bool}{tk:ByteArray→Int→Bool}
theorem Qss(T:TxtOk nm tk)(z B N:Nat):Cz nm tk (Ek z) B N:=(wX T z N).bz
theorem mG(T:TxtOk nm tk){z:Nat}{x y:ByteArray}{c:F}{d:Nat}(hn:Zg nm tk 16 x y c false d=true)(rest:List Tk):Vq z 16 (GG z) d (sp 16 x c++rest)=.ok ⟨16,x,e0,c⟩ rest:=by
 obtain⟨hd,htx,htr,ZE,hks⟩:=Qd hn;have htx:nm x=true:=htx;obtain⟨k0,x0,y0,c0,r0,rfl,hp,VZ⟩:=Zi (show Qe (.one [Qt]::[]) c=true from ZE);obtain rfl:=Kw VZ;obtain⟨hn0,_⟩:=Qp hks;have LL:down 16 x 0 k0 x0=0:=by simp[down,Qi,more]
 rw[LL,Nat.add_zero]at hn0;have hy0:y0=e0:=Qr (Qd hn0).2.2.1;subst hy0;have hsp:sp 16 x (.cons k0 x0 e0 c0 .nil)=XL x::sp k0 x0 c0:=rfl;rw[hsp,List.cons_append];unfold Vq;rw[Qq,Jc hd (Yv T htx),Rd.bind_ok,qV T (Z0 hp) hn0,Rd.bind_ok];rfl
theorem nG(T:TxtOk nm tk){z B:Nat}{d:Nat}{px:ByteArray}:∀(r:F)(i:Nat),K7 (Qk [16]) r→Z4 nm tk 15 px false d i r=true→Ay (Vq z 16 (GG z) (d+1)) B r
 | .nil,_,_,_=>trivial
 | .cons k x y c r,i,⟨ha,har⟩,hk=>by
  obtain rfl:=Vl ha;obtain⟨hn,hr⟩:=Qp hk;have GW:down 15 px i 16 x=1:=by simp[down,Qi,more]
  rw[GW]at hn;have hy:=Qr (Qd hn).2.2.1;have htx:nm x=true:=(Qd hn).2.1;exact⟨hy,fun t rest _ _=>mG T hn _,⟨XL x,_,rfl,My T htx (V1 41 (by decide))⟩,nG T r (i+1) har hr⟩
theorem Qqz(T:TxtOk nm tk){z:Nat}{x y:ByteArray}{c:F}{it:Bool}{d:Nat}(hn:Zg nm tk 7 x y c it d=true)(rest:List Tk):Ke z d (sp 7 x c++rest)=.ok ⟨7,x,e0,c⟩ rest:=by
 obtain⟨hd,htx,htr,ZE,hks⟩:=Qd hn;have htx:nm x=true:=htx;obtain⟨k0,x0,y0,c0,r0,rfl,hp0,VZ⟩:=Zi (show Qe (.one [Qk [16],Qk [33]]::.one [Qk [15]]::.one [Qt,Qk [33]]::.one [Qk [17]]::[]) c=true from ZE);obtain⟨k1,x1,y1,c1,r1,rfl,hp1,hr1⟩:=Zi VZ;obtain⟨k2,x2,y2,c2,r2,rfl,hp2,hr2⟩:=Zi hr1;obtain⟨k3,x3,y3,c3,r3,rfl,Mg,hr3⟩:=Zi hr2;obtain rfl:=Kw hr3;obtain rfl:=Vl (Z0 hp1);obtain rfl:=Vl (Z0 Mg);obtain⟨hn0,JL⟩:=Qp hks;obtain⟨JU,PU⟩:=Qp JL;obtain⟨Ld,Dx⟩:=Qp PU;obtain⟨BQ,_⟩:=Qp Dx;have hd0:down 7 x 0 k0 x0=0:=by simp[down,Qi,more]
 have hd1:down 7 x (0+1) 15 x1=0:=by simp[down,Qi,more]
 have hd2:down 7 x (0+1+1) k2 x2=0:=by simp[down,Qi,more]
 have hd3:down 7 x (0+1+1+1) 17 x3=0:=by simp[down,Qi,more]
 rw[hd0,Nat.add_zero]at hn0;rw[hd1,Nat.add_zero]at JU;rw[hd2,Nat.add_zero]at Ld;rw[hd3,Nat.add_zero]at BQ;have hy0:y0=e0:=Qr (Qd hn0).2.2.1;have hy1:y1=e0:=Qr (Qd JU).2.2.1;have hy2:y2=e0:=Qr (Qd Ld).2.2.1;have fw:y3=e0:=Qr (Qd BQ).2.2.1;subst hy0;subst hy1;subst hy2;subst fw;obtain⟨_,vF,_,TD,Dw⟩:=Qd JU;obtain rfl:=Ve vF;have hall:=Eb (show Qe [.many (Qk [16])] c1=true from TD);have hsp:sp 7 x (.cons k0 x0 e0 c0 (.cons 15 e0 e0 c1 (.cons k2 x2 e0 c2 (.cons 17 x3 e0 c3 .nil))))++rest=JP [102,117,110,99]::((if k0=33 then[]else ZG [40]::(sp k0 x0 c0++[ZG [41]]))++(XL x::ZG [40]::(Zs (Qw c1)++ZG [41]::((if k2=33 then[]else sp k2 x2 c2)++(sp 17 x3 c3++rest))))):=by show JP [102,117,110,99]::((if k0=33 then[]else ZG [40]::(sp k0 x0 c0++[ZG [41]]))++XL x::ZG [40]::(Zs (Qw c1)++ZG [41]::((if k2=33 then[]else sp k2 x2 c2)++sp 17 x3 c3)))++rest=_;simp
 rw[hsp];have hbl:=gv z x3 c3 rest;unfold Ke;rw[Qq,Jc hd (by rw[V0];rfl),Rd.bind_ok];generalize uZ:(XL x::ZG [40]::(Zs (Qw c1)++ZG [41]::((if k2=33 then[]else sp k2 x2 c2)++(sp 17 x3 c3++rest))))=TL
 have hrec:(if QQ (QB.hd z ((if k0=33 then[]else ZG [40]::(sp k0 x0 c0++[ZG [41]]))++TL)) [40]=true then(Vq z 16 (GG z) d ((if k0=33 then[]else ZG [40]::(sp k0 x0 c0++[ZG [41]]))++TL).tail).bind fun n l=>(QB.want z [41] l).bind fun _ l => .ok n l
   else Rd.ok Jg ((if k0=33 then[]else ZG [40]::(sp k0 x0 c0++[ZG [41]]))++TL))=.ok ⟨k0,x0,e0,c0⟩ TL:=by
  rcases Ec hp0 with h|h
  ·obtain rfl:=Vl h;rw[if_neg (show ¬(16:Int)=33 by decide),List.cons_append,Qq,Zo,if_pos (by decide),List.tail_cons,KA,mG T hn0,Rd.bind_ok,List.cons_append,List.nil_append,Kx (by rw[Zo];rfl),Rd.bind_ok]
  ·obtain rfl:=Vl h;obtain⟨rfl,_,rfl⟩:=FB hn0;rw[if_pos rfl,List.nil_append,←uZ,Qq,My T htx (V1 40 (by decide)),if_neg (by decide)];rfl
 rw[hrec,Rd.bind_ok,←uZ,Y7 (Yv T htx),Rd.bind_ok];rw[np (B:=(ZG [40]::(Zs (Qw c1)++ZG [41]::((if k2=33 then[]else sp k2 x2 c2)++(sp 17 x3 c3++rest)))).length) c1 (nG T c1 0 hall Dw) _ (Nat.le_refl _),Rd.bind_ok];have hres:(if QQ (QB.hd z ((if k2=33 then[]else sp k2 x2 c2)++(sp 17 x3 c3++rest))) [123]=true then Rd.ok Jg ((if k2=33 then[]else sp k2 x2 c2)++(sp 17 x3 c3++rest))else GG z d ((if k2=33 then[]else sp k2 x2 c2)++(sp 17 x3 c3++rest)))=.ok ⟨k2,x2,e0,c2⟩ (sp 17 x3 c3++rest):=by
  rcases Ec hp2 with h|h
  ·rw[if_neg (Fj h),rE T h Ld (by decide),if_neg (by decide)];exact qV T h Ld _
  ·obtain rfl:=Vl h;obtain⟨rfl,_,rfl⟩:=FB Ld;rw[if_pos rfl,List.nil_append,hbl.2.2,if_pos rfl];rfl
 rw[hres,Rd.bind_ok,G8 T (N:=c3.size) (B:=(sp 17 x3 c3++rest).length) (fun M _=>Qss T z _ M) (Nat.le_refl _) BQ rest (Nat.le_refl _),Rd.bind_ok];rfl
def X1(k:Int):Prop:=k=2∨k=3∨k=4∨k=5∨k=6∨k=7
def Yr(k:Int):List UInt8:=if k=2 then[112,97,99,107,97,103,101]else if k=3 then[105,109,112,111,114,116]else if k=4 then[99,111,110,115,116]else if k=5 then[118,97,114]else if k=6 then[116,121,112,101]else[102,117,110,99]
theorem zo{k:Int}{x:ByteArray}{c:F}(hk:X1 k):∃w,sp k x c=JP (Yr k)::w:=by
 rcases hk with rfl|rfl|rfl|rfl|rfl|rfl <;> exact⟨_,rfl⟩
theorem Qra(T:TxtOk nm tk){z:Nat}{k:Int}{x y:ByteArray}{c:F}{it:Bool}{d:Nat}(hk:X1 k)(hn:Zg nm tk k x y c it d=true)(rest:List Tk):Jn z d (sp k x c++VR::rest)=.ok ⟨k,x,e0,c⟩ (VR::rest):=by
 obtain⟨hd,htx,htr,ZE,hks⟩:=Qd hn;obtain⟨w,e⟩:=zo (x:=x) (c:=c) hk;have hh:∀v,QQ (QB.hd z (sp k x c++VR::rest)) v=(Yr k==v):=fun v=>by rw[e,List.cons_append,Qq,V0]
 unfold Jn;rcases hk with rfl|rfl|rfl|rfl|rfl|rfl
 ·have htx:nm x=true:=htx;obtain rfl:=len_nil ZE;rw[hh,if_pos (by decide)];show(QB.name z (XL x::VR::rest)).bind _=_;rw[Y7 (Yv T htx),Rd.bind_ok];rfl
 ·obtain rfl:=len_nil ZE;rw[hh,if_neg (by decide),hh,if_pos (by decide)];show(X5 z ((SK x).kind==3) (SK x::VR::rest)).bind _=_;rw[Z3 (show((SK x).kind==3)=true from rfl),Rd.bind_ok];rfl
 ·have htx:nm x=true:=htx;obtain⟨k0,x0,y0,c0,r0,rfl,hp,VZ⟩:=Zi (show Qe (.one [Qg]::[]) c=true from ZE);obtain rfl:=Kw VZ;obtain⟨hn0,_⟩:=Qp hks;have hd0:down 4 x 0 k0 x0=0:=by simp[down,Qi,more]
  rw[hd0,Nat.add_zero]at hn0;have hy0:y0=e0:=Qr (Qd hn0).2.2.1;subst hy0;rw[hh,if_neg (by decide),hh,if_neg (by decide),hh,if_pos (by decide)];show(QB.name z (XL x::ZG [61]::(sp k0 x0 c0++VR::rest))).bind _=_;rw[Y7 (Yv T htx),Rd.bind_ok,Kx (by rw[Zo];rfl),Rd.bind_ok,K4 T (Z0 hp) hn0 (VR::rest) Fp Fy,Rd.bind_ok];rfl
 ·rw[hh,if_neg (by decide),hh,if_neg (by decide),hh,if_neg (by decide),hh,if_neg (by decide),hh,if_pos (by decide)];exact tJ T hn rest
 ·have htx:nm x=true:=htx;obtain⟨k0,x0,y0,c0,r0,rfl,hp,VZ⟩:=Zi (show Qe (.one [Qt]::[]) c=true from ZE);obtain rfl:=Kw VZ;obtain⟨hn0,_⟩:=Qp hks;have hd0:down 6 x 0 k0 x0=0:=by simp[down,Qi,more]
  rw[hd0,Nat.add_zero]at hn0;have hy0:y0=e0:=Qr (Qd hn0).2.2.1;subst hy0;rw[hh,if_neg (by decide),hh,if_neg (by decide),hh,if_neg (by decide),hh,if_pos (by decide)];show(QB.name z (XL x::(sp k0 x0 c0++VR::rest))).bind _=_;rw[Y7 (Yv T htx),Rd.bind_ok,qV T (Z0 hp) hn0,Rd.bind_ok];rfl
 ·rw[hh,if_neg (by decide),hh,if_neg (by decide),hh,if_neg (by decide),hh,if_neg (by decide),hh,if_neg (by decide)];exact Qqz T hn _
def Gd:F→Prop
 | .nil=>True
 | .cons k _ _ _ r=>(k=8∨X1 k)∧Gd r
theorem Ew(T:TxtOk nm tk){z B:Nat}{px:ByteArray}:∀(r:F)(i:Nat),Gd r→Z4 nm tk 1 px true 0 i r=true→Yq z (Jn z) 0 B r
 | .nil,_,_,_=>trivial
 | .cons k x y c r,i,⟨ha,har⟩,hk=>by
  obtain⟨hn,hr⟩:=Qp hk;have GW:down 1 px i k x=0:=by simp[down,Qi,more]
  rw[GW]at hn;obtain⟨hd,htx,htr,ZE,hks⟩:=Qd hn;refine⟨Nat.zero_le _,fun h8=>?_,fun h8=>?_,Ew T r (i+1) har hr⟩
  ·subst h8;refine⟨gH htr,len_nil ZE,?_⟩;obtain⟨q,e⟩:=T.r x htx;unfold QQ;rw[show(Pq x true).x.toList=47::q from e];rfl
  ·have hk':X1 k:=by
    rcases ha with h|h
    ·exact absurd h h8
    ·exact h
   obtain⟨w,e⟩:=zo (x:=x) (c:=c) hk';refine⟨fun rest _=>Qra T hk' hn rest,⟨_,w,e,fun q=>(by cases q),?_⟩⟩;rw[V0];rcases hk' with rfl|rfl|rfl|rfl|rfl|rfl <;> rfl
def km(ws:List (List UInt8)):F→Prop
 | .nil=>True
 | .cons k _ _ _ r=>(k=8∨(X1 k∧Yr k∈ws))∧km ws r
theorem zB{z:Nat}{ws:List (List UInt8)}:∀(f:F),(∀B,Yq z (Jn z) 0 B f)→Gd f→km ws f→∀(rest:List Tk)(g:Nat),N5 (QB.hd z rest)→¬Re z ws rest→(Qs f (Qw f)++rest).length<g→
  rows z ws g (Qs f (Qw f)++rest)=.ok f rest
 | .nil,_,_,_,rest,g,_,hn,hg=>by
  obtain⟨g,rfl⟩:∃q,g=q+1:=⟨g-1,by omega⟩;exact Ur hn
 | .cons k x y c r,hI,⟨hk,fG⟩,⟨hc,hcr⟩,rest,g,h5,hn,hg=>by
  obtain⟨g,rfl⟩:∃q,g=q+1:=⟨g-1,by omega⟩;have e:Qs (.cons k x y c r) (Qw (.cons k x y c r))++rest=Jh k x y (sp k x c)++(Qs r (Qw r)++rest):=by rw[Kk,Qs,KA]
  rw[e]at hg⊢;obtain⟨hd,h1,h2,h3⟩:=hI ((Jh k x y (sp k x c)++(Qs r (Qw r)++rest)).length+1);have h6:0<(Jh k x y (sp k x c)).length:=by
   unfold Jh;split
   ·simp
   ·simp only[List.length_append,List.length_cons];omega
  have hit:=xR hd (fun q=>⟨(h1 q).1,(h1 q).2.1⟩) h2 (Qs r (Qw r)++rest) (gz h3 _ h5) (Nat.lt_succ_self _);rw[List.length_append]at hg;refine En ?_ hit (zB r (fun B=>(hI B).2.2.2) fG hcr rest g h5 hn (by omega));rcases hc with rfl|⟨hk',hw⟩
  ·exact .inl rfl
  ·right
   obtain⟨w,e2⟩:=zo (x:=x) (c:=c) hk';have h8:k≠8:=by rcases hk' with rfl|rfl|rfl|rfl|rfl|rfl <;> decide
   simp only[List.any_eq_true];refine⟨Yr k,hw,?_⟩;unfold Jh;rw[if_neg h8,e2,KA,List.cons_append,Qq,V0];exact beq_self_eq_true _
theorem El:∀(a b:F),Qs (Vi a b) (Qw (Vi a b))=Qs a (Qw a)++Qs b (Qw b)
 | .nil,b=>rfl
 | .cons k x y c r,b=>by
  show Jh k x y (sp k x c)++Qs (Vi r b) (Qw (Vi r b))=Jh k x y (sp k x c)++Qs r (Qw r)++_;rw[El r b,KA]
theorem xU{pk:Int}{px:ByteArray}{it:Bool}{d:Nat}:∀(a b:F)(i:Nat),Z4 nm tk pk px it d i (Vi a b)=true→∃j,Z4 nm tk pk px it d i a=true∧Z4 nm tk pk px it d j b=true
 | .nil,b,i,h=>⟨i,rfl,h⟩
 | .cons k x y c r,b,i,h=>by
  obtain⟨h1,h2⟩:=Qp (show Z4 nm tk pk px it d i (.cons k x y c (Vi r b))=true from h);obtain⟨j,h3,h4⟩:=xU r b (i+1) h2;exact⟨j,by rw[G0,h1,h3];rfl,h4⟩
theorem Gn(p:Int→ByteArray→Bool):∀f:F,∃a,f=Vi a (Kv p f)∧K7 p a
 | .nil=>⟨.nil,rfl,trivial⟩
 | .cons k x y c r=>by
  by_cases h:p k x=true
  ·obtain⟨a,e,ha⟩:=Gn p r;refine⟨.cons k x y c a,?_,h,ha⟩;have:Kv p (.cons k x y c r)=Kv p r:=by show(if p k x=true then _ else _)=_;rw[if_pos h]
   rw[this];show F.cons k x y c r=.cons k x y c (Vi a (Kv p r));rw[←e]
  ·refine⟨.nil,?_,trivial⟩;have:Kv p (.cons k x y c r)=.cons k x y c r:=by show(if p k x=true then _ else _)=_;rw[if_neg h]
   rw[this];rfl
theorem mJ{p:Int→ByteArray→Bool}:∀{f:F}{k:Int}{x y:ByteArray}{c r:F},Kv p f=.cons k x y c r→p k x=false
 | .nil,_,_,_,_,_,h=>by cases h
 | .cons k0 x0 y0 c0 r0,k,x,y,c,r,h=>by
  by_cases h0:p k0 x0=true
  ·exact mJ (f:=r0) (by rw[←h];show _=(if p k0 x0=true then _ else _);rw[if_pos h0])
  ·have e:Kv p (.cons k0 x0 y0 c0 r0)=.cons k0 x0 y0 c0 r0:=by show(if p k0 x0=true then _ else _)=_;rw[if_neg h0]
   rw[e]at h;injection h with h1 h2;rw[←h1,←h2];simpa using h0
end
