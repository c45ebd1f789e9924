import Derived.Test.YtaiihnniblibaaaGreatDoorG27
set_option linter.unusedVariables false
open _root_.Nat renaming le_refl→QH,lt_succ_self→JW
open _root_.List renaming length_cons→VX,length_append→JF,append_assoc→KA
namespace Go.Proofs.YtaiihnniblibaaaGreatDoor
namespace JI
open Tree QB
def SP(k:Int)(x:ByteArray):Nat:=if k=29 then Ql x else 6
theorem qK{u:List UInt8}:Ql (ZG u).x=Ql (ba u):=rfl
theorem Ei{u:List UInt8}(h:u≠[40]∧u≠[91]∧u≠[46]):E5 (ZG u):=by
 unfold E5;rw[Zo,Zo,Zo];exact⟨beq_eq_false_iff_ne.2 h.1,beq_eq_false_iff_ne.2 h.2.1,beq_eq_false_iff_ne.2 h.2.2⟩
theorem Ql1{z d g:Nat}{ex:Nat→Nat→List Tk→Rd Nd}{n:Nd}{l:List Tk}(h:E5 (QB.hd z l))(hg:0<g):behind z ex d g n l=.ok n l:=by
 obtain⟨g,rfl⟩:∃q,g=q+1:=⟨g-1,by omega⟩;unfold behind;rw[h.1,if_neg (by decide),h.2.1,if_neg (by decide),h.2.2,if_neg (by decide)]
theorem nr{z d g least:Nat}{ex:Nat→Nat→List Tk→Rd Nd}{n:Nd}{l:List Tk}(h:Ql (QB.hd z l).x<least)(hg:0<g):Xw z ex least d g n l=.ok n l:=by
 obtain⟨g,rfl⟩:∃q,g=q+1:=⟨g-1,by omega⟩;unfold Xw;rw[if_neg (by omega)]
theorem Xy{k:Int}{x:ByteArray}(h:Qg k x=true):k=9∨k=26∨k=27∨k=28∨k=29∨k=30∨k=31∨k=32:=by
 unfold Qg at h;simp only[Bool.or_eq_true,beq_iff_eq]at h;omega
def low(k:Int):Bool:=k==29||k==28
theorem Qu8{x y:ByteArray}(h:x.toList=y.toList):Ql x=Ql y:=by rw[Jp h]
theorem aU{x:ByteArray}(h:0<Ql x):E5 (KM x):=by
 have key:∀u∈([[40],[91],[46]]:List (List UInt8)),QQ (KM x) u=false:=fun u hu=>by
  unfold QQ;refine beq_eq_false_iff_ne.2 fun q=>?_
  have q:x.toList=u:=q;have hl:Ql (ba u)=0:=by
   rcases List.mem_cons.1 hu with rfl|hu
   ·decide +kernel
   rcases List.mem_cons.1 hu with rfl|hu
   ·decide +kernel
   rcases List.mem_cons.1 hu with rfl|hu
   ·decide +kernel
   ·cases hu
  rw[Qu8 (y:=ba u) (by rw[q,Yp]),hl]at h;exact absurd h (Nat.lt_irrefl _)
 exact⟨key _ (by decide),key _ (by decide),key _ (by decide)⟩
section
variable {nm:ByteArray→Bool}{tk:ByteArray→Int→Bool}(T:TxtOk nm tk)
def AZ(nm:ByteArray→Bool)(tk:ByteArray→Int→Bool)(t:Tk):Prop:=t=ZG [40]∨(∃x,nm x=true∧t=XL x)∨(∃x,tk x 2=true∧t=CY x)∨(∃x,tk x 3=true∧t=SK x)
def FJ(nm:ByteArray→Bool)(tk:ByteArray→Int→Bool)(t:Tk):Prop:=AZ nm tk t∨∃x,QB.Q9 (KM x)=true∧t=KM x
include T
theorem U1{t:Tk}(h:AZ nm tk t){a:UInt8}{u:List UInt8}(ha:¬Pl a)(iM:a≠40):QQ t (a::u)=false:=by
 rcases h with rfl|⟨x,hx,rfl⟩|⟨x,hx,rfl⟩|⟨x,hx,rfl⟩
 ·rw[Zo];exact beq_eq_false_iff_ne.2 fun q=>iM (by injection q with q _;exact q.symm)
 ·exact My T hx ha
 ·obtain⟨b,r,e,h1,h2⟩:=T.i x hx;exact ke (t:=CY x) e (by unfold Pl;omega) ha
 ·obtain⟨r,e⟩:=T.s x hx;exact ke (t:=SK x) e (by unfold Pl;simp) ha
theorem Em{t:Tk}(h:AZ nm tk t):QB.Q9 t=false:=by
 unfold QB.Q9
 rw[U1 T h (V1 45 (by decide)) (by decide),U1 T h (V1 33 (by decide)) (by decide),U1 T h (V1 94 (by decide)) (by decide),U1 T h (V1 42 (by decide)) (by decide),U1 T h (V1 38 (by decide)) (by decide),
  U1 T h (V1 43 (by decide)) (by decide)]
 rfl
end
theorem nH{b:Bool}{w:List Tk}{t:Tk}{r:List Tk}(h:w=t::r):∃t' r',Kl b w=t'::r'∧((b=true∧t'=ZG [40])∨(b=false∧t'=t)):=by
 cases b with
 |true=>exact⟨_,_,rfl,.inl ⟨rfl,rfl⟩⟩
 |false=>exact⟨t,r,h,.inr ⟨rfl,rfl⟩⟩
section
variable {nm:ByteArray→Bool}{tk:ByteArray→Int→Bool}
theorem Uc:∀(N:Nat)(k:Int)(x y:ByteArray)(c:F)(d:Nat),c.size≤N→Qg k x=true→Zg nm tk k x y c false d=true→∃t w,sp k x c=t::w∧FJ nm tk t∧(low k=false→AZ nm tk t):=by
 intro N
 induction N using Nat.strongRecOn with
 |_ N ih =>
  intro k x y c d hN hk hn;obtain⟨hd,htx,htr,ZE,hks⟩:=Qd hn;have post:∀(pk:Int)(px:ByteArray)(k0:Int)(x0 y0:ByteArray)(c0 r:F)(rest:List Tk),low pk=false→(pk=30∨pk=31∨pk=32)→c=.cons k0 x0 y0 c0 r→Qg k0 x0=true→Z4 nm tk pk px false d 0 c=true→
    ∃t w,Kl (Qi pk px 0 k0 x0) (sp k0 x0 c0)++rest=t::w∧FJ nm tk t∧(low pk=false→AZ nm tk t):=by
   intro pk px k0 x0 y0 c0 r rest _ hpk hc hv hkk;subst hc;obtain⟨hn0,_⟩:=Qp hkk;rw[Ga]at hN;obtain⟨t,w,e,h1,h2⟩:=ih c0.size (by omega) k0 x0 y0 c0 _ (QH _) hv hn0;have hp:Qi pk px 0 k0 x0=low k0:=by unfold Qi low;rcases hpk with rfl|rfl|rfl <;> simp
   rw[hp];cases hl:low k0 with
   |true=>exact⟨_,_,rfl,.inl (.inl rfl),fun _=>.inl rfl⟩
   |false=>rw[e];exact⟨t,w++rest,rfl,h1,fun _=>h2 hl⟩
  rcases Xy hk with rfl|rfl|rfl|rfl|rfl|rfl|rfl|rfl
  ·exact⟨_,_,rfl,.inl (.inr (.inl ⟨x,htx,rfl⟩)),fun _=>.inr (.inl ⟨x,htx,rfl⟩)⟩
  ·exact⟨_,_,rfl,.inl (.inr (.inr (.inl ⟨x,htx,rfl⟩))),fun _=>.inr (.inr (.inl ⟨x,htx,rfl⟩))⟩
  ·exact⟨_,_,rfl,.inl (.inr (.inr (.inr ⟨x,htx,rfl⟩))),fun _=>.inr (.inr (.inr ⟨x,htx,rfl⟩))⟩
  ·exact⟨_,_,rfl,.inr ⟨x,htx,rfl⟩,fun h=>by cases h⟩
  ·obtain⟨k0,x0,y0,c0,r0,rfl,hp,VZ⟩:=Zi (show Qe (.one [Qg]::.one [Qg]::[]) c=true from ZE);obtain⟨k1,x1,y1,c1,r1,rfl,hp1,hr1⟩:=Zi VZ;obtain⟨hn0,_⟩:=Qp hks;simp only[Ga]at hN;obtain⟨t,w,e,h1,h2⟩:=ih c0.size (by omega) k0 x0 y0 c0 _ (QH _) (Z0 hp) hn0;have hsp:sp 29 x (.cons k0 x0 y0 c0 (.cons k1 x1 y1 c1 r1))=Kl (Qi 29 x 0 k0 x0) (sp k0 x0 c0)++KM x::Kl (Qi 29 x 1 k1 x1) (sp k1 x1 c1):=rfl;rw[hsp];cases hb:Qi 29 x 0 k0 x0 with
   |true=>exact⟨_,_,rfl,.inl (.inl rfl),fun h=>by cases h⟩
   |false=>rw[e];exact⟨t,_,rfl,h1,fun h=>by cases h⟩
  ·obtain⟨k0,x0,y0,c0,r0,rfl,hp,VZ⟩:=Zi (show Qe (.one [Qg]::.many Qg::[]) c=true from ZE);exact post 30 x k0 x0 y0 c0 r0 _ rfl (.inl rfl) rfl (Z0 hp) hks
  ·obtain⟨k0,x0,y0,c0,r0,rfl,hp,VZ⟩:=Zi (show Qe (.one [Qg]::.one [Qg]::[]) c=true from ZE);exact post 31 x k0 x0 y0 c0 r0 _ rfl (.inr (.inl rfl)) rfl (Z0 hp) hks
  ·obtain⟨k0,x0,y0,c0,r0,rfl,hp,VZ⟩:=Zi (show Qe (.one [Qg]::[]) c=true from ZE);exact post 32 x k0 x0 y0 c0 r0 _ rfl (.inr (.inr rfl)) rfl (Z0 hp) hks
def SY(z:Nat)(k:Int)(x:ByteArray)(c:F)(d:Nat)(w:List Tk):Prop:=∀f1 f m r rest,(w++rest).length<f→(w++rest).length≤f1→(∀g,rest.length<g→behind z (J6 z f1) d g ⟨k,x,e0,c⟩ rest=.ok m r)→Ru z (J6 z f1) f d (w++rest)=.ok m r
def WY(z:Nat)(k:Int)(x:ByteArray)(c:F)(d:Nat)(w:List Tk):Prop:=∀f1 f rest,(w++rest).length<f→(w++rest).length≤f1→E5 (QB.hd z rest)→Ru z (J6 z f1) f d (w++rest)=.ok ⟨k,x,e0,c⟩ rest
def Cj(z L:Nat)(k:Int)(x:ByteArray)(c:F)(d:Nat)(w:List Tk):Prop:=∀least f m r rest,0<least→least≤L→(w++rest).length<f→E5 (QB.hd z rest)→Ql (QB.hd z rest).x≤L→
 (∀g,rest.length<g→Xw z (J6 z (f-1)) least d g ⟨k,x,e0,c⟩ rest=.ok m r)→J6 z f least d (w++rest)=.ok m r
section
variable {z d L:Nat}{k:Int}{x:ByteArray}{c:F}{w:List Tk}
theorem SY.u(h:SY z k x c d w):WY z k x c d w:=fun f1 f rest h1 h2 hs=>h f1 f _ _ rest h1 h2 fun g hg=>Ql1 hs (by omega)
theorem WY.b(h:WY z k x c d w):Cj z L k x c d w:=by
 intro least f m r rest h0 h1 h2 hs hl hk;obtain⟨f,rfl⟩:∃q,f=q+1:=⟨f-1,by omega⟩;show(Ru z (J6 z f) ((w++rest).length+1) d (w++rest)).bind (fun n l=>Xw z (J6 z f) least d (l.length+1) n l)=_;rw[h f _ rest (JW _) (by omega) hs,Rd.bind_ok];exact hk _ (JW _)
theorem Cj.all(h:Cj z L k x c d w)(hL:0<L){f:Nat}{rest:List Tk}(h1:(w++rest).length<f)(hs:E5 (QB.hd z rest))(hl:Ql (QB.hd z rest).x=0):J6 z f 1 d (w++rest)=.ok ⟨k,x,e0,c⟩ rest :=
 h 1 f _ _ rest (by decide) hL h1 hs (by omega) fun g hg=>nr (by omega) (by omega)
theorem tC(h:Cj z L k x c (d+1) w)(hL:0<L)(hd:d≤256):SY z k x c d (Kl true w):=by
 intro f1 f m r rest h1 h2 hk;have e:Kl true w++rest=ZG [40]::(w++ZG [41]::rest):=by simp[Kl]
 rw[e]at h1 h2⊢;obtain⟨f,rfl⟩:∃q,f=q+1:=⟨f-1,by omega⟩;have hb:QB.JM (ZG [40])=true:=by unfold QB.JM;rw[Zo];rfl
 have GM:QB.Q9 (ZG [40])=false:=by unfold QB.Q9;simp only[Zo];rfl
 unfold Ru;rw[Qq,Jc hd hb,Rd.bind_ok,GM,if_neg (by decide)];unfold first
 rw[if_neg (show ¬(ZG [40]).kind=2 from by decide),if_neg (show ¬(ZG [40]).kind=3 from by decide),Zo,if_pos (by decide)];simp only[VX]at h1 h2;rw[h.all (rest:=ZG [41]::rest) hL (by omega) (Ei (u:=[41]) (by decide)) (by rw[Qq,qK];decide +kernel),Rd.bind_ok,Kx (by rw[Zo];rfl),Rd.bind_ok,Rd.bind_ok];exact hk _ (JW _)
theorem pJ{b:Bool}(h0:b=false→Cj z L k x c d w)(h1:b=true→Cj z L k x c (d+1) w∧d≤256)(hL:0<L){least f:Nat}{m:Nd}{r rest:List Tk}(hl0:0<least)(hl:b=false→least≤L)(hf:(Kl b w++rest).length<f)
  (hs:E5 (QB.hd z rest)) (hv:b=false→Ql (QB.hd z rest).x≤L) (hk:∀g,rest.length<g→Xw z (J6 z (f-1)) least d g ⟨k,x,e0,c⟩ rest=.ok m r):J6 z f least d (Kl b w++rest)=.ok m r:=by
 cases b with
 |false=>exact h0 rfl least f m r rest hl0 (hl rfl) hf hs (hv rfl) hk
 |true=>obtain⟨h2,h3⟩:=h1 rfl;exact(tC h2 hL h3).u.b (L:=max least (Ql (QB.hd z rest).x)) least f m r rest hl0 (Nat.le_max_left _ _) hf hs (Nat.le_max_right _ _) hk
theorem tB{b:Bool}(h0:b=false→SY z k x c d w)(h1:b=true→Cj z L k x c (d+1) w∧d≤256)(hL:0<L):SY z k x c d (Kl b w):=by
 cases b with
 |false=>exact h0 rfl
 |true=>exact tC (h1 rfl).1 hL (h1 rfl).2
end
structure CU(z:Nat)(k:Int)(x:ByteArray)(c:F)(d:Nat):Prop where
 p:low k=false→SY z k x c d (sp k x c)
 b:Cj z (SP k x) k x c d (sp k x c)
def lD(nm:ByteArray→Bool)(tk:ByteArray→Int→Bool)(z N:Nat):Prop:=∀k x y c d,c.size≤N→Qg k x=true→Zg nm tk k x y c false d=true→CU z k x c d
theorem Yj{k:Int}{x y:ByteArray}{c:F}{d:Nat}(h:Zg nm tk k x y c false d=true):0<SP k x:=by
 unfold SP;split
 ·rename_i Sy
  subst Sy;exact of_decide_eq_true (show decide (0<Ql x)=true from(Qd h).2.1)
 ·decide
theorem ra(T:TxtOk nm tk){z N:Nat}(ih:lD nm tk z N){f1 d:Nat}{px:ByteArray}:∀(r:F)(i:Nat),0<i→r.size≤N+1→K7 Qg r→Z4 nm tk 30 px false d i r=true→Ay (J6 z f1 1 (d+1)) f1 r
 | .nil,_,_,_,_,_=>trivial
 | .cons k x y c r,i,hi,hN,⟨ha,har⟩,hk=>by
  obtain⟨hn,hr⟩:=Qp hk;rw[Ga]at hN;have GW:down 30 px i k x=1:=by simp[down,Qi,more,Nat.pos_iff_ne_zero.1 hi,hi]
  rw[GW]at hn;have hy:=Qr (Qd hn).2.2.1;refine⟨hy,fun t rest ht hB=>?_,?_,ra T ih r (i+1) (Nat.succ_pos _) (by omega) har hr⟩
  ·have hE:=ih k x y c (d+1) (by omega) ha hn;rcases ht with rfl|rfl
   ·exact hE.b.all (Yj hn) hB (Ei (by decide)) (by rw[Qq,qK];decide +kernel)
   ·exact hE.b.all (Yj hn) hB (Ei (by decide)) (by rw[Qq,qK];decide +kernel)
  ·obtain⟨t,w,e,h1,_⟩:=Uc c.size k x y c (d+1) (QH _) ha hn;refine⟨t,w,e,?_⟩;rcases h1 with h1|⟨q,hq,rfl⟩
   ·exact U1 T h1 (V1 41 (by decide)) (by decide)
   ·unfold QQ;refine beq_eq_false_iff_ne.2 fun e=>?_
    have e:q.toList=[41]:=e;unfold QB.Q9 QQ KM at hq;simp only[e]at hq;cases hq
theorem Qvt(T:TxtOk nm tk)(z:Nat):∀N,lD nm tk z N:=by
 intro N
 induction N using Nat.strongRecOn with
 |_ N ih =>
  intro k x y c d hN hk hn;obtain⟨hd,htx,htr,ZE,hks⟩:=Qd hn;have Nu:=Qr htr;subst Nu
  -- what one Kid is read as
  have kid:∀(k0:Int)(x0 y0:ByteArray)(c0:F)(e:Nat),c0.size<N→Qg k0 x0=true→Zg nm tk k0 x0 y0 c0 false e=true→CU z k0 x0 c0 e∧y0=e0:=fun k0 x0 y0 c0 e hlt hv h =>
   ⟨ih c0.size hlt k0 x0 y0 c0 e (QH _) hv h,Qr (Qd h).2.2.1⟩
  -- an operand ahead of a call,an index or a dot
  have vw:∀(pk:Int)(k0:Int)(x0 y0:ByteArray)(c0:F),(pk=30∨pk=31∨pk=32)→c0.size<N→Qg k0 x0=true→Zg nm tk k0 x0 y0 c0 false (d+down pk x 0 k0 x0)=true→SY z k0 x0 c0 d (Kl (Qi pk x 0 k0 x0) (sp k0 x0 c0)):=by
   intro pk k0 x0 y0 c0 hpk hlt hv h;have hp:Qi pk x 0 k0 x0=low k0:=by unfold Qi low;rcases hpk with rfl|rfl|rfl <;> simp
   have GW:down pk x 0 k0 x0=if low k0=true then 1 else 0:=by unfold down;rw[hp];rcases hpk with rfl|rfl|rfl <;> simp[more]
   rw[GW]at h;rw[hp];refine tB (L:=SP k0 x0) (fun hb=>?_) (fun hb=>?_) ?_
   ·rw[hb,if_neg (by decide)]at h;exact(kid k0 x0 y0 c0 d hlt hv h).1.p hb
   ·rw[hb,if_pos rfl]at h;exact⟨(kid k0 x0 y0 c0 (d+1) hlt hv h).1.b,hd⟩
   ·exact Yj h
  -- one token
  have atom:∀(t:Tk),sp k x c=[t]→QB.JM t=true→QB.Q9 t=false→(∀(ex:Nat→Nat→List Tk→Rd Nd) l,first z ex d t l=.ok ⟨k,x,e0,c⟩ l)→SY z k x c d (sp k x c):=by intro t hsp hb hs hf f1 f m r rest h1 h2 hk;rw[hsp,List.cons_append,List.nil_append]at h1 h2⊢;obtain⟨f,rfl⟩:∃q,f=q+1:=⟨f-1,by omega⟩;unfold Ru;rw[Qq,Jc hd hb,Rd.bind_ok,hs,if_neg (by decide),hf,Rd.bind_ok];exact hk _ (JW _)
  rcases Xy hk with rfl|rfl|rfl|rfl|rfl|rfl|rfl|rfl
  ·have htx:nm x=true:=htx;obtain rfl:=len_nil ZE
   have hp:=atom (XL x) rfl (by unfold QB.JM;rw[Yv T htx];simp) (Em T (.inr (.inl ⟨x,htx,rfl⟩))) (fun ex l=>by
    unfold first
    rw[if_neg (show ¬(XL x).kind=2 from(by decide:¬((1:Int)=2))),if_neg (show ¬(XL x).kind=3 from(by decide:¬((1:Int)=3))),My T htx (V1 40 (by decide)),if_neg (by decide)];rfl)
   exact⟨fun _=>hp,hp.u.b⟩
  ·have htx:tk x 2=true:=htx;obtain rfl:=len_nil ZE;have hp:=atom (CY x) rfl rfl (Em T (.inr (.inr (.inl ⟨x,htx,rfl⟩)))) (fun ex l=>by unfold first;rw[if_pos (show(CY x).kind=2 from rfl)];rfl);exact⟨fun _=>hp,hp.u.b⟩
  ·have htx:tk x 3=true:=htx;obtain rfl:=len_nil ZE;have hp:=atom (SK x) rfl rfl (Em T (.inr (.inr (.inr ⟨x,htx,rfl⟩)))) (fun ex l=>by unfold first;rw[if_neg (show ¬(SK x).kind=2 from(by decide:¬((3:Int)=2))),if_pos (show(SK x).kind=3 from rfl)];rfl);exact⟨fun _=>hp,hp.u.b⟩
  ·
   obtain⟨k0,x0,y0,c0,r0,rfl,hp,VZ⟩:=Zi (show Qe (.one [Qg]::[]) c=true from ZE);obtain rfl:=Kw VZ;obtain⟨hn0,_⟩:=Qp hks;simp only[F.size]at hN;have GM:QB.Q9 (KM x)=true:=htx;have hb:QB.JM (KM x)=true:=by unfold QB.JM;rw[GM];simp
   have IP:Qi 28 x 0 k0 x0=low k0:=rfl;have GW:down 28 x 0 k0 x0=(if low k0=true then 1 else 0)+1:=rfl;rw[GW]at hn0;have hsp:sp 28 x (.cons k0 x0 y0 c0 .nil)=KM x::Kl (low k0) (sp k0 x0 c0):=rfl;have hy0:y0=e0:=Qr (Qd hn0).2.2.1;have Ny:SY z k0 x0 c0 (d+1) (Kl (low k0) (sp k0 x0 c0)):=by
    refine tB (L:=SP k0 x0) (fun hb=>?_) (fun hb=>?_) (Yj hn0)
    ·rw[hb,if_neg (by decide),Nat.zero_add]at hn0;exact(kid k0 x0 y0 c0 (d+1) (by omega) (Z0 hp) hn0).1.p hb
    ·rw[hb,if_pos rfl]at hn0;exact⟨(kid k0 x0 y0 c0 (d+(1+1)) (by omega) (Z0 hp) hn0).1.b,by have:=(Qd hn0).1;omega⟩
   have hu:WY z 28 x (.cons k0 x0 y0 c0 .nil) d (sp 28 x (.cons k0 x0 y0 c0 .nil)):=by
    intro f1 f rest h1 h2 hs;rw[hsp,List.cons_append]at h1 h2⊢;obtain⟨f,rfl⟩:∃q,f=q+1:=⟨f-1,by omega⟩;unfold Ru;rw[Qq,Jc hd hb,Rd.bind_ok,GM,if_pos rfl];have hns:QB.Q9 (QB.hd z (Kl (low k0) (sp k0 x0 c0)++rest))=false:=by
     obtain⟨t,w,e,uL,UD⟩:=Uc c0.size k0 x0 y0 c0 _ (QH _) (Z0 hp) hn0;obtain⟨t',w',e',h3⟩:=nH (b:=low k0) e;rw[e',List.cons_append,Qq];rcases h3 with⟨_,rfl⟩|⟨hl,rfl⟩
     ·exact Em T (.inl rfl)
     ·exact Em T (UD hl)
    rw[hns,if_neg (by decide)];simp only[VX]at h1 h2;rw[Ny.u f1 f rest (by omega) (by omega) hs,Rd.bind_ok,hy0];rfl
   exact⟨fun h=>(by cases h),hu.b⟩
  ·
   obtain⟨k0,x0,y0,c0,r0,rfl,hp,VZ⟩:=Zi (show Qe (.one [Qg]::.one [Qg]::[]) c=true from ZE);obtain⟨k1,x1,y1,c1,r1,rfl,hp1,hr1⟩:=Zi VZ;obtain rfl:=Kw hr1;obtain⟨hn0,JL⟩:=Qp hks;obtain⟨JU,_⟩:=Qp JL;simp only[F.size]at hN;have hlv:0<Ql x:=of_decide_eq_true (show decide (0<Ql x)=true from htx);have hsp:sp 29 x (.cons k0 x0 y0 c0 (.cons k1 x1 y1 c1 .nil))=Kl (Qi 29 x 0 k0 x0) (sp k0 x0 c0)++KM x::Kl (Qi 29 x 1 k1 x1) (sp k1 x1 c1):=rfl;have hd0:down 29 x 0 k0 x0=if Qi 29 x 0 k0 x0=true then 1 else 0:=by unfold down more;simp
   have hd1:down 29 x (0+1) k1 x1=if Qi 29 x 1 k1 x1=true then 1 else 0:=by unfold down more;simp
   rw[hd0]at hn0;rw[hd1]at JU;have hy0:y0=e0:=Qr (Qd hn0).2.2.1;have hy1:y1=e0:=Qr (Qd JU).2.2.1;have hl5:=rZ x
   have IU:Qi 29 x 0 k0 x0=false→Ql x≤SP k0 x0:=fun h=>by
    rw[show Qi 29 x 0 k0 x0=(k0==29&&decide (Ql x0<Ql x))from rfl]at h;unfold SP;split
    ·rename_i Sy
     rw[Sy,show((29:Int)==29)=true from rfl,Bool.true_and,decide_eq_false_iff_not]at h;omega
    ·omega
   have IQ:Qi 29 x 1 k1 x1=false→Ql x+1≤SP k1 x1:=fun h=>by
    rw[show Qi 29 x 1 k1 x1=(k1==29&&decide (Ql x1≤Ql x))from rfl]at h;unfold SP;split
    ·rename_i Sy
     rw[Sy,show((29:Int)==29)=true from rfl,Bool.true_and,decide_eq_false_iff_not]at h;omega
    ·omega
   refine⟨fun h=>(by cases h),?_⟩;intro least f m r rest h0 h1 h2 hs hl hkk;have fY:SP 29 x=Ql x:=rfl;rw[fY]at h1 hl;rw[hsp,List.append_assoc,List.cons_append]at h2⊢;have hlen:=h2;simp only[JF,VX]at hlen;refine pJ (k:=k0) (x:=x0) (c:=c0) (L:=SP k0 x0) (fun hb=>?_) (fun hb=>?_) (Yj hn0) h0 (fun hb=>Nat.le_trans h1 (IU hb)) h2 (by rw[Qq];exact aU hlv) (fun hb=>by rw[Qq];exact IU hb) fun g hg=>?_
   ·rw[hb,if_neg (by decide)]at hn0;exact(kid k0 x0 y0 c0 d (by omega) (Z0 hp) hn0).1.b
   ·rw[hb,if_pos rfl]at hn0;exact⟨(kid k0 x0 y0 c0 (d+1) (by omega) (Z0 hp) hn0).1.b,hd⟩
   obtain⟨g,rfl⟩:∃q,g=q+1:=⟨g-1,by omega⟩;unfold Xw;rw[Qq,show(KM x).x=x from rfl,if_pos h1,List.tail_cons];have vJ:J6 z (f-1) (Ql x+1) d (Kl (Qi 29 x 1 k1 x1) (sp k1 x1 c1)++rest)=.ok ⟨k1,x1,e0,c1⟩ rest:=by
    refine pJ (k:=k1) (x:=x1) (c:=c1) (L:=SP k1 x1) (fun hb=>?_) (fun hb=>?_) (Yj JU) (Nat.succ_pos _) IQ (by simp only[JF];omega) hs (fun hb=>by have:=IQ hb;omega) fun g hg=>nr (by omega) (by omega)
    ·rw[hb,if_neg (by decide)]at JU;exact(kid k1 x1 y1 c1 d (by omega) (Z0 hp1) JU).1.b
    ·rw[hb,if_pos rfl]at JU;exact⟨(kid k1 x1 y1 c1 (d+1) (by omega) (Z0 hp1) JU).1.b,hd⟩
   rw[vJ,Rd.bind_ok];simp only[VX,JF]at hg;have:=hkk g (by omega);rw[hy0,hy1]at this;exact this
  ·
   obtain⟨k0,x0,y0,c0,r0,rfl,hp,VZ⟩:=Zi (show Qe (.one [Qg]::.many Qg::[]) c=true from ZE);have hall:=Eb VZ;obtain⟨hn0,JL⟩:=Qp hks;obtain rfl:=Ve htx;simp only[Ga]at hN;have hy0:y0=e0:=Qr (Qd hn0).2.2.1;have hsp:sp 30 e0 (.cons k0 x0 y0 c0 r0)=Kl (Qi 30 e0 0 k0 x0) (sp k0 x0 c0)++ZG [40]::(Zs (Qw r0)++[ZG [41]]):=rfl;have Ny:SY z 30 e0 (.cons k0 x0 y0 c0 r0) d (sp 30 e0 (.cons k0 x0 y0 c0 r0)):=by
    intro f1 f m r rest h1 h2 hkk;have e:sp 30 e0 (.cons k0 x0 y0 c0 r0)++rest=Kl (Qi 30 e0 0 k0 x0) (sp k0 x0 c0)++(ZG [40]::(Zs (Qw r0)++ZG [41]::rest)):=by rw[hsp];simp
    rw[e]at h1 h2⊢;refine vw 30 k0 x0 y0 c0 (.inl rfl) (by omega) (Z0 hp) hn0 f1 f m r _ h1 h2 fun g hg=>?_
    obtain⟨g,rfl⟩:∃q,g=q+1:=⟨g-1,by omega⟩;unfold behind;rw[Qq,Zo,if_pos (by decide)];have hpl:0<(Kl (Qi 30 e0 0 k0 x0) (sp k0 x0 c0)).length:=by obtain⟨t,w,e,_,_⟩:=Uc c0.size k0 x0 y0 c0 _ (QH _) (Z0 hp) hn0;obtain⟨t',w',e',_⟩:=nH (b:=Qi 30 e0 0 k0 x0) e;rw[e'];simp
    rw[JF]at h2;have iG:N-1<N:=by omega
    rw[np r0 (ra T (ih (N-1) iG) r0 1 (by decide) (by omega) hall JL) rest (by omega),Rd.bind_ok];simp only[VX,JF]at hg;have:=hkk g (by omega);rw[hy0]at this;exact this
   exact⟨fun _=>Ny,Ny.u.b⟩
  ·
   obtain⟨k0,x0,y0,c0,r0,rfl,hp,VZ⟩:=Zi (show Qe (.one [Qg]::.one [Qg]::[]) c=true from ZE);obtain⟨k1,x1,y1,c1,r1,rfl,hp1,hr1⟩:=Zi VZ;obtain rfl:=Kw hr1;obtain⟨hn0,JL⟩:=Qp hks;obtain⟨JU,_⟩:=Qp JL;obtain rfl:=Ve htx;simp only[F.size]at hN;have DD:down 31 e0 (0+1) k1 x1=1:=by simp[down,Qi,more]
   rw[DD]at JU;have hy0:y0=e0:=Qr (Qd hn0).2.2.1;have hy1:y1=e0:=Qr (Qd JU).2.2.1;have hsp:sp 31 e0 (.cons k0 x0 y0 c0 (.cons k1 x1 y1 c1 .nil))=Kl (Qi 31 e0 0 k0 x0) (sp k0 x0 c0)++ZG [91]::(sp k1 x1 c1++[ZG [93]]):=rfl;have Ny:SY z 31 e0 (.cons k0 x0 y0 c0 (.cons k1 x1 y1 c1 .nil)) d (sp 31 e0 (.cons k0 x0 y0 c0 (.cons k1 x1 y1 c1 .nil))):=by
    intro f1 f m r rest h1 h2 hkk;have e:sp 31 e0 (.cons k0 x0 y0 c0 (.cons k1 x1 y1 c1 .nil))++rest=Kl (Qi 31 e0 0 k0 x0) (sp k0 x0 c0)++(ZG [91]::(sp k1 x1 c1++ZG [93]::rest)):=by rw[hsp];simp
    rw[e]at h1 h2⊢;refine vw 31 k0 x0 y0 c0 (.inr (.inl rfl)) (by omega) (Z0 hp) hn0 f1 f m r _ h1 h2 fun g hg=>?_
    obtain⟨g,rfl⟩:∃q,g=q+1:=⟨g-1,by omega⟩;unfold behind;rw[Qq,Zo,if_neg (by decide),Zo,if_pos (by decide),List.tail_cons];rw[JF,VX]at h2;rw[(kid k1 x1 y1 c1 (d+1) (by omega) (Z0 hp1) JU).1.b.all (rest:=ZG [93]::rest) (Yj JU) (by omega) (Ei (u:=[93]) (by decide)) (by rw[Qq,qK];decide +kernel),Rd.bind_ok,Kx (by rw[Zo];rfl),Rd.bind_ok];simp only[VX,JF]at hg;have:=hkk g (by omega);rw[hy0,hy1]at this;exact this
   exact⟨fun _=>Ny,Ny.u.b⟩
  ·
   have htx:nm x=true:=htx;obtain⟨k0,x0,y0,c0,r0,rfl,hp,VZ⟩:=Zi (show Qe (.one [Qg]::[]) c=true from ZE);obtain rfl:=Kw VZ;obtain⟨hn0,_⟩:=Qp hks;simp only[F.size]at hN;have hy0:y0=e0:=Qr (Qd hn0).2.2.1;have hsp:sp 32 x (.cons k0 x0 y0 c0 .nil)=Kl (Qi 32 x 0 k0 x0) (sp k0 x0 c0)++[ZG [46],XL x]:=rfl;have Ny:SY z 32 x (.cons k0 x0 y0 c0 .nil) d (sp 32 x (.cons k0 x0 y0 c0 .nil)):=by
    intro f1 f m r rest h1 h2 hkk;have e:sp 32 x (.cons k0 x0 y0 c0 .nil)++rest=Kl (Qi 32 x 0 k0 x0) (sp k0 x0 c0)++(ZG [46]::XL x::rest):=by rw[hsp];simp
    rw[e]at h1 h2⊢;refine vw 32 k0 x0 y0 c0 (.inr (.inr rfl)) (by omega) (Z0 hp) hn0 f1 f m r _ h1 h2 fun g hg=>?_
    obtain⟨g,rfl⟩:∃q,g=q+1:=⟨g-1,by omega⟩;unfold behind;rw[Qq,Zo,if_neg (by decide),Zo,if_neg (by decide),Zo,if_pos (by decide),List.tail_cons,Y7 (Yv T htx),Rd.bind_ok];simp only[VX]at hg;have:=hkk g (by omega);rw[hy0]at this;exact this
   exact⟨fun _=>Ny,Ny.u.b⟩
end
theorem pz{x:ByteArray}(h:QB.Q9 (KM x)=true):x.toList∈([[45],[33],[94],[42],[38],[43]]:List (List UInt8)):=by
 unfold QB.Q9 QQ at h;simp only[Bool.or_eq_true,beq_iff_eq]at h;rcases h with((((h|h)|h)|h)|h)|h <;> (have h:x.toList=_:=h;rw[h];decide)
theorem rT{nm:ByteArray→Bool}{tk:ByteArray→Int→Bool}{t:Tk}(h:FJ nm tk t):t.kind≠5∧t.kind≠6:=by
 rcases h with h|⟨x,hx,rfl⟩
 ·rcases h with rfl|⟨x,hx,rfl⟩|⟨x,hx,rfl⟩|⟨x,hx,rfl⟩ <;> exact⟨fun q=>(by cases q),fun q=>(by cases q)⟩
 ·exact⟨fun q=>(by cases q),fun q=>(by cases q)⟩
section
variable {nm:ByteArray→Bool}{tk:ByteArray→Int→Bool}(T:TxtOk nm tk)
include T
def NZ:List (List UInt8):=[[118,97,114],[123],[105,102],[102,111,114],[114,101,116,117,114,110],[98,114,101,97,107],[99,111,110,116,105,110,117,101],[125],[41],[44],[61]]
theorem qJ{t:Tk}(h:FJ nm tk t):∀u∈NZ,QQ t u=false:=by
 intro u hu;rcases h with h|⟨x,hx,rfl⟩
 ·rcases h with rfl|⟨x,hx,rfl⟩|⟨x,hx,rfl⟩|⟨x,hx,rfl⟩
  ·rw[Zo];have:∀u∈NZ,(([40]:List UInt8)==u)=false:=by decide
   exact this u hu
  ·have h2:∀u∈NZ,Lex.isWord (u.map fun b=>(b.toNat:Int))=true∨∃a v,u=a::v∧¬Pl a:=by
    intro u hu;have:∀u∈NZ,Lex.isWord (u.map fun b=>(b.toNat:Int))=true∨(u.length=1∧u.headD 0∈([123,125,41,44,61]:List UInt8)):=by decide
    rcases this u hu with h|⟨h1,h2⟩
    ·exact .inl h
    ·match u,h1,h2 with
     |[a],_,h2 =>
      refine .inr ⟨a,[],rfl,V1 a ?_⟩;have h2:a∈([123,125,41,44,61]:List UInt8):=h2;have:∀a∈([123,125,41,44,61]:List UInt8),a∈([124,38,61,33,60,62,43,45,94,42,47,37,40,41,91,93,123,125,44,46,58]:List UInt8):=by decide
      exact this a h2
   rcases h2 u hu with h|⟨a,v,rfl,h⟩
   ·exact jK T hx h
   ·exact My T hx h
  ·obtain⟨b,r,e,h1,h2⟩:=T.i x hx;have:∀u∈NZ,∃a v,u=a::v∧¬(48≤a.toNat∧a.toNat≤57):=by
    intro u hu;have h3:∀u∈NZ,u≠[]∧¬(48≤(u.headD 0).toNat∧(u.headD 0).toNat≤57):=by decide
    match u,h3 u hu with
    |a::v,h=>exact⟨a,v,rfl,h.2⟩
   obtain⟨a,v,rfl,h3⟩:=this u hu;unfold QQ;rw[show(CY x).x.toList=b::r from e];refine beq_eq_false_iff_ne.2 fun q=>h3 ?_
   injection q with q _;rw[←q];exact⟨h1,h2⟩
  ·obtain⟨r,e⟩:=T.s x hx;have h3:∀u∈NZ,u.head?≠some 34:=by decide
   unfold QQ;rw[show(SK x).x.toList=34::r from e];refine beq_eq_false_iff_ne.2 fun q=>h3 u hu ?_
   rw[←q];rfl
 ·have h1:=pz hx;have h2:∀v∈([[45],[33],[94],[42],[38],[43]]:List (List UInt8)),∀u∈NZ,(v==u)=false:=by decide
  unfold QQ;exact h2 _ h1 u hu
theorem K4{z:Nat}{k:Int}{x y:ByteArray}{c:F}{d:Nat}(hk:Qg k x=true)(hn:Zg nm tk k x y c false d=true)(rest:List Tk)(hs:E5 (QB.hd z rest))(hl:Ql (QB.hd z rest).x=0) :
  XH z d (sp k x c++rest)=.ok ⟨k,x,e0,c⟩ rest :=
 (Qvt T z c.size k x y c d (Nat.le_refl _) hk hn).b.all (Yj hn) (Nat.lt_succ_self _) hs hl
theorem qV{z:Nat}{k:Int}{x y:ByteArray}{c:F}{d:Nat}(hk:Qt k x=true)(hn:Zg nm tk k x y c false d=true)(rest:List Tk):GG z d (sp k x c++rest)=.ok ⟨k,x,e0,c⟩ rest :=
 Qsf T z c.size k x y c d (Nat.le_refl _) hk hn _ rest (Nat.lt_succ_self _)
theorem rE{k:Int}{x y:ByteArray}{c:F}{d:Nat}(hk:Qt k x=true)(hn:Zg nm tk k x y c false d=true){a:UInt8}(ha:a∈([61,123]:List UInt8))(z:Nat)(rest:List Tk):QQ (QB.hd z (sp k x c++rest)) [a]=false:=by
 obtain⟨t,w,e,h⟩:=Qsh (c:=c) hk;have hp:¬Pl a:=by
  have:∀a∈([61,123]:List UInt8),a∈([124,38,61,33,60,62,43,45,94,42,47,37,40,41,91,93,123,125,44,46,58]:List UInt8):=by decide
  exact V1 a (this a ha)
 rw[e,List.cons_append,Qq];rcases h with⟨rfl,rfl⟩|rfl|rfl|rfl|rfl
 ·exact My T (show nm x=true from(Qd hn).2.1) hp
 ·rw[Zo];have:∀a∈([61,123]:List UInt8),(([42]:List UInt8)==[a])=false:=by decide
  exact this a ha
 ·rw[Zo];have:∀a∈([61,123]:List UInt8),(([91]:List UInt8)==[a])=false:=by decide
  exact this a ha
 ·rw[V0];have:∀a∈([61,123]:List UInt8),(([109,97,112]:List UInt8)==[a])=false:=by decide
  exact this a ha
 ·rw[V0];have:∀a∈([61,123]:List UInt8),(([115,116,114,117,99,116]:List UInt8)==[a])=false:=by decide
  exact this a ha
end
theorem Fp:E5 VR:=by unfold E5;simp only[Cv];decide
theorem Fy:Ql VR.x=0:=Km (.inl Xn)
section
variable {nm:ByteArray→Bool}{tk:ByteArray→Int→Bool}
theorem FB{x y:ByteArray}{c:F}{d:Nat}(h:Zg nm tk 33 x y c false d=true):x=e0∧y=e0∧c=.nil:=by
 obtain⟨_,htx,htr,ZE,_⟩:=Qd h;exact⟨Ve htx,Qr htr,len_nil ZE⟩
theorem Fj{k:Int}{x:ByteArray}(h:Qt k x=true):k≠33:=by rcases Xz h with rfl|rfl|rfl|rfl|rfl <;> decide
theorem Fk{k:Int}{x:ByteArray}(h:Qg k x=true):k≠33:=by rcases Xy h with rfl|rfl|rfl|rfl|rfl|rfl|rfl|rfl <;> decide
theorem Ec{p q:Int→ByteArray→Bool}{k:Int}{x:ByteArray}(h:([p,q].any fun p=>p k x)=true):p k x=true∨q k x=true:=by simpa using h
theorem tJ(T:TxtOk nm tk){z:Nat}{x y:ByteArray}{c:F}{it:Bool}{d:Nat}(hn:Zg nm tk 5 x y c it d=true)(rest:List Tk):Rf z d (sp 5 x c++VR::rest)=.ok ⟨5,x,e0,c⟩ (VR::rest):=by
 obtain⟨hd,htx,htr,ZE,hks⟩:=Qd hn;have htx:nm x=true:=htx;have ZE:(Qe [.one [Qt,Qk [33]],.one [Qg,Qk [33]]] c && !Qe [.one [Qk [33]],.one [Qk [33]]] c)=true:=ZE;rw[Bool.and_eq_true]at ZE;obtain⟨ZE,hnn⟩:=ZE;obtain⟨k0,x0,y0,c0,r0,rfl,hp0,VZ⟩:=Zi ZE;obtain⟨k1,x1,y1,c1,r1,rfl,hp1,hr1⟩:=Zi VZ;obtain rfl:=Kw hr1;obtain⟨hn0,JL⟩:=Qp hks;obtain⟨JU,_⟩:=Qp JL;have hd0:down 5 x 0 k0 x0=0:=by simp[down,Qi,more]
 have hd1:down 5 x (0+1) k1 x1=0:=by simp[down,Qi,more]
 rw[hd0,Nat.add_zero]at hn0;rw[hd1,Nat.add_zero]at JU;have hy0:y0=e0:=Qr (Qd hn0).2.2.1;have hy1:y1=e0:=Qr (Qd JU).2.2.1;subst hy0;subst hy1;have hsp:sp 5 x (.cons k0 x0 e0 c0 (.cons k1 x1 e0 c1 .nil))=JP [118,97,114]::XL x::((if k0=33 then[]else sp k0 x0 c0)++(if k1=33 then[]else ZG [61]::sp k1 x1 c1)):=rfl;rw[hsp,List.cons_append,List.cons_append,KA];unfold Rf;rw[Qq,Jc hd (by rw[V0];rfl),Rd.bind_ok,Y7 (Yv T htx),Rd.bind_ok]
 -- the value
 have hval:(if QQ (QB.hd z ((if k1=33 then[]else ZG [61]::sp k1 x1 c1)++VR::rest)) [61]=true then XH z d ((if k1=33 then[]else ZG [61]::sp k1 x1 c1)++VR::rest).tail else .ok Jg ((if k1=33 then[]else ZG [61]::sp k1 x1 c1)++VR::rest))=.ok ⟨k1,x1,e0,c1⟩ (VR::rest):=by
  rcases Ec hp1 with hv|hv
  ·rw[if_neg (Fk hv),List.cons_append,Qq,Zo,if_pos (by decide),List.tail_cons];exact K4 T hv JU _ Fp Fy
  ·obtain rfl:=Vl hv;obtain⟨rfl,_,rfl⟩:=FB JU;rw[if_pos rfl,List.nil_append,Qq,Cv,if_neg (by decide)];rfl
 rcases Ec hp0 with hv|hv
 ·rw[if_neg (Fj hv),rE T hv hn0 (by decide),if_neg (by decide),qV T hv hn0,Rd.bind_ok,hval,Rd.bind_ok];rfl
 ·obtain rfl:=Vl hv;obtain⟨rfl,_,rfl⟩:=FB hn0
  have OS:k1≠33:=fun q=>by
   subst q;have:Qe [.one [Qk [33]],.one [Qk [33]]] (.cons 33 e0 e0 .nil (.cons 33 x1 e0 c1 .nil))=true:=rfl;rw[this]at hnn;cases hnn
  rw[if_pos rfl,List.nil_append];rw[if_pos (show QQ (QB.hd z ((if k1=33 then[]else ZG [61]::sp k1 x1 c1)++VR::rest)) [61]=true by rw[if_neg OS,List.cons_append,Qq,Zo];rfl),Rd.bind_ok];rw[hval,Rd.bind_ok];rfl
def Mz:F→List Tk
 | .nil=>[]
 | .cons k x y c r=>ZG [44]::Zs (Qw (.cons k x y c r))
theorem ct(k:Int)(x y:ByteArray)(c r:F):Zs (Qw (.cons k x y c r))=sp k x c++Mz r:=by
 rw[Kk];cases r with
 |nil=>rfl
 |cons=>rfl
theorem E8(z:Nat)(r:F)(rest:List Tk):E5 (QB.hd z (Mz r++VR::rest))∧Ql (QB.hd z (Mz r++VR::rest)).x=0:=by
 cases r with
 |nil=>exact⟨Fp,Fy⟩
 |cons k x y c r=>exact⟨Ei (u:=[44]) (by decide),by show Ql (ba [44])=0;decide +kernel⟩
theorem cu(T:TxtOk nm tk){z d:Nat}{px:ByteArray}:∀(r:F)(i:Nat),K7 Qg r→Z4 nm tk 20 px false d i r=true→∀(rest:List Tk)(g:Nat),(Mz r++VR::rest).length<g→X8 z d g (Mz r++VR::rest)=.ok r (VR::rest)
 | .nil,_,_,_,rest,g,hg=>by
  obtain⟨g,rfl⟩:∃q,g=q+1:=⟨g-1,by omega⟩;show(if QQ (QB.hd z (VR::rest)) [44]=true then _ else _)=_;rw[Qq,Cv,if_neg (by decide)];rfl
 | .cons k x y c r,i,⟨ha,har⟩,hk,rest,g,hg=>by
  obtain⟨g,rfl⟩:∃q,g=q+1:=⟨g-1,by omega⟩;obtain⟨hn,hr⟩:=Qp hk;have GW:down 20 px i k x=0:=by simp[down,Qi,more]
  rw[GW,Nat.add_zero]at hn;have hy:=Qr (Qd hn).2.2.1;subst hy;have e:Mz (.cons k x e0 c r)++VR::rest=ZG [44]::(sp k x c++(Mz r++VR::rest)):=by show ZG [44]::(Zs (Qw (.cons k x e0 c r)))++_=_;rw[ct,List.cons_append,KA]
  rw[e]at hg⊢;simp only[List.length_cons]at hg;rw[List.length_append]at hg;unfold X8;rw[Qq,Zo,if_pos (by decide),List.tail_cons,K4 T ha hn _ (E8 z r rest).1 (E8 z r rest).2,Rd.bind_ok,cu T r (i+1) har hr rest g (by omega),Rd.bind_ok];rfl
theorem Qt1(T:TxtOk nm tk){z:Nat}{x y:ByteArray}{c:F}{it:Bool}{d:Nat}(hn:Zg nm tk 20 x y c it d=true)(rest:List Tk):RL z d (sp 20 x c++VR::rest)=.ok ⟨20,x,e0,c⟩ (VR::rest):=by
 obtain⟨hd,htx,htr,ZE,hks⟩:=Qd hn;obtain rfl:=Ve htx;have hall:=Eb (show Qe [.many Qg] c=true from ZE);have hsp:sp 20 e0 c=JP [114,101,116,117,114,110]::Zs (Qw c):=rfl;rw[hsp,List.cons_append];unfold RL;rw[Qq,Jc hd (by rw[V0];rfl),Rd.bind_ok];cases c with
 |nil=>rw[show Zs (Qw .nil)++VR::rest=VR::rest from rfl,if_pos (Or.inl (show(QB.hd z (VR::rest)).kind=6 from rfl))];rfl
 |cons k0 x0 y0 c0 r =>
  obtain⟨ha,har⟩:=hall;obtain⟨hn0,JL⟩:=Qp hks;have GW:down 20 e0 0 k0 x0=0:=by simp[down,Qi,more]
  rw[GW,Nat.add_zero]at hn0;have hy:=Qr (Qd hn0).2.2.1;subst hy;rw[ct,KA];obtain⟨t,w,e,h1,_⟩:=Uc c0.size k0 x0 e0 c0 d (Nat.le_refl _) ha hn0;have hne:¬((QB.hd z (sp k0 x0 c0++(Mz r++VR::rest))).kind=6∨QQ (QB.hd z (sp k0 x0 c0++(Mz r++VR::rest))) [125]=true):=by
   rw[e,List.cons_append,Qq];rintro(q|q)
   ·exact(rT h1).2 q
   ·rw[qJ T h1 [125] (by decide)]at q;cases q
  rw[if_neg hne,K4 T ha hn0 _ (E8 z r rest).1 (E8 z r rest).2,Rd.bind_ok,cu T r 1 har JL rest _ (Nat.lt_succ_self _),Rd.bind_ok];rfl
theorem Gi{k:Int}{x:ByteArray}(h:Zv k x=true):Qg k x=true:=by
 unfold Zv at h;simp only[Bool.or_eq_true,Bool.and_eq_true,beq_iff_eq]at h;unfold Qg;rcases h with((rfl|rfl)|rfl)|⟨rfl,_⟩ <;> rfl
theorem pc{k:Int}{x:ByteArray}{c:F}(h:Zv k x=true):LB ⟨k,x,e0,c⟩=true:=by
 unfold Zv at h;unfold LB;rw[Bool.or_assoc,Bool.or_assoc]at h;exact h
theorem jM{x:ByteArray}{u:List UInt8}(h:(x.toList==u)=true):x=ba u:=Jp (by rw[beq_iff_eq.1 h,Yp])
theorem Z3{z:Nat}{f:Bool}{l:List Tk}(h:f=true):X5 z f l=.ok () l:=by unfold X5;rw[if_pos h]
theorem Qj5(T:TxtOk nm tk){z:Nat}{k:Int}{x y:ByteArray}{c:F}{it:Bool}{d:Nat}(hk:k=21∨k=22∨k=23)(hn:Zg nm tk k x y c it d=true)(rest:List Tk):Zl z d (sp k x c++VR::rest)=.ok ⟨k,x,e0,c⟩ (VR::rest):=by
 obtain⟨hd,htx,htr,ZE,hks⟩:=Qd hn;rcases hk with rfl|rfl|rfl
 ·
  have hrow:∃k0 x0 c0 k1 x1 c1,c=.cons k0 x0 e0 c0 (.cons k1 x1 e0 c1 .nil)∧Qg k0 x0=true∧Qg k1 x1=true∧Zg nm tk k0 x0 e0 c0 false d=true∧Zg nm tk k1 x1 e0 c1 false d=true∧
    ((x=ba [58,61]∧k0=9)∨(QQ (KM x) [58,61]=false∧Zv k0 x0=true)):=by
   have hb:(if x.toList==[58,61]then Qe [.one [Qk [9]],.one [Qg]] c else Qe [.one [Zv],.one [Qg]] c)=true:=ZE;have fin:∀(p:Int→ByteArray→Bool),Qe [.one [p],.one [Qg]] c=true→(∀k x,p k x=true→Qg k x=true)→∃k0 x0 c0 k1 x1 c1,c=.cons k0 x0 e0 c0 (.cons k1 x1 e0 c1 .nil)∧Qg k0 x0=true∧Qg k1 x1=true∧Zg nm tk k0 x0 e0 c0 false d=true∧Zg nm tk k1 x1 e0 c1 false d=true∧p k0 x0=true:=by
    intro p h hpv;obtain⟨k0,x0,y0,c0,r0,rfl,hp0,VZ⟩:=Zi h;obtain⟨k1,x1,y1,c1,r1,rfl,hp1,hr1⟩:=Zi VZ;obtain rfl:=Kw hr1;obtain⟨hn0,JL⟩:=Qp hks;obtain⟨JU,_⟩:=Qp JL;have hd0:down 21 x 0 k0 x0=0:=by simp[down,Qi,more]
    have hd1:down 21 x (0+1) k1 x1=0:=by simp[down,Qi,more]
    rw[hd0,Nat.add_zero]at hn0;rw[hd1,Nat.add_zero]at JU;have hy0:y0=e0:=Qr (Qd hn0).2.2.1;have hy1:y1=e0:=Qr (Qd JU).2.2.1;subst hy0;subst hy1;exact⟨k0,x0,c0,k1,x1,c1,rfl,hpv _ _ (Z0 hp0),Z0 hp1,hn0,JU,Z0 hp0⟩
   by_cases hx:(x.toList==[58,61])=true
   ·rw[if_pos hx]at hb;obtain⟨k0,x0,c0,k1,x1,c1,e,a1,a2,a3,a4,a5⟩:=fin _ hb (fun k x h=>by obtain rfl:=Vl h;rfl);exact⟨k0,x0,c0,k1,x1,c1,e,a1,a2,a3,a4,.inl ⟨jM hx,Vl a5⟩⟩
   ·rw[if_neg hx]at hb;obtain⟨k0,x0,c0,k1,x1,c1,e,a1,a2,a3,a4,a5⟩:=fin _ hb (fun k x h=>Gi h);exact⟨k0,x0,c0,k1,x1,c1,e,a1,a2,a3,a4,.inr ⟨beq_eq_false_iff_ne.2 fun q=>hx (beq_iff_eq.2 q),a5⟩⟩
  obtain⟨k0,x0,c0,k1,x1,c1,rfl,hv0,hv1,hn0,JU,TH⟩:=hrow;have hop:E5 (KM x)∧Ql x=0∧(QQ (KM x) [58,61]=true∨Xg (KM x)=true):=by
   have htx:(x.toList==[61]||x.toList==[58,61]||x.toList==[43,61]||x.toList==[45,61]||x.toList==[42,61]||x.toList==[47,61]||x.toList==[37,61])=true:=htx;simp only[Bool.or_eq_true]at htx;have key:∀u∈([[61],[58,61],[43,61],[45,61],[42,61],[47,61],[37,61]]:List (List UInt8)),E5 (KM (ba u))∧Ql (ba u)=0∧(QQ (KM (ba u)) [58,61]=true∨Xg (KM (ba u))=true):=by
    intro u hu;have e:KM (ba u)=ZG u:=rfl;rw[e];have h1:∀u∈([[61],[58,61],[43,61],[45,61],[42,61],[47,61],[37,61]]:List (List UInt8)),u≠[40]∧u≠[91]∧u≠[46]:=by decide
    have h2:∀u∈([[61],[58,61],[43,61],[45,61],[42,61],[47,61],[37,61]]:List (List UInt8)),Ql (ba u)=0:=by decide +kernel
    refine⟨Ei (h1 u hu),h2 u hu,?_⟩;unfold Xg;simp only[Zo];have h3:∀u∈([[61],[58,61],[43,61],[45,61],[42,61],[47,61],[37,61]]:List (List UInt8)),(u==[58,61])=true∨(u==[61]||(u==[43,61]||(u==[45,61]||(u==[42,61]||(u==[47,61]||u==[37,61])))))=true:=by decide
    exact h3 u hu
   rcases htx with(((((h|h)|h)|h)|h)|h)|h <;> (rw[jM h];exact key _ (by decide))
  have hsp:sp 21 x (.cons k0 x0 e0 c0 (.cons k1 x1 e0 c1 .nil))=sp k0 x0 c0++KM x::sp k1 x1 c1:=rfl;rw[hsp,KA,List.cons_append];unfold Zl;rw[K4 T hv0 hn0 (KM x::(sp k1 x1 c1++VR::rest)) hop.1 hop.2.1,Rd.bind_ok,Qq];rcases TH with⟨rfl,rfl⟩|⟨hno,hpl⟩
  ·rw[show QQ (KM (ba [58,61])) [58,61]=true from Zo _ _,if_pos rfl,Z3 (show((9:Int)==9)=true from rfl),Rd.bind_ok,List.tail_cons,K4 T hv1 JU (VR::rest) Fp Fy,Rd.bind_ok];rfl
  ·have ha:Xg (KM x)=true:=by
    rcases hop.2.2 with h|h
    ·rw[hno]at h;cases h
    ·exact h
   rw[hno,if_neg (by decide),if_pos ha,Z3 (pc hpl),Rd.bind_ok,List.tail_cons,K4 T hv1 JU (VR::rest) Fp Fy,Rd.bind_ok];rfl
 ·
  obtain⟨k0,x0,y0,c0,r0,rfl,hp0,VZ⟩:=Zi (show Qe (.one [Zv]::[]) c=true from ZE);obtain rfl:=Kw VZ;obtain⟨hn0,_⟩:=Qp hks;have hd0:down 22 x 0 k0 x0=0:=by simp[down,Qi,more]
  rw[hd0,Nat.add_zero]at hn0;have hy0:y0=e0:=Qr (Qd hn0).2.2.1;subst hy0;have hop:E5 (KM x)∧Ql x=0∧QQ (KM x) [58,61]=false∧Xg (KM x)=false∧Yf (KM x)=true:=by
   have htx:(x.toList==[43,43]||x.toList==[45,45])=true:=htx;rw[Bool.or_eq_true]at htx;have key:∀u∈([[43,43],[45,45]]:List (List UInt8)),E5 (KM (ba u))∧Ql (ba u)=0∧QQ (KM (ba u)) [58,61]=false∧Xg (KM (ba u))=false∧Yf (KM (ba u))=true:=by
    intro u hu;have e:KM (ba u)=ZG u:=rfl;rw[e];have h1:∀u∈([[43,43],[45,45]]:List (List UInt8)),u≠[40]∧u≠[91]∧u≠[46]:=by decide
    have h2:∀u∈([[43,43],[45,45]]:List (List UInt8)),Ql (ba u)=0:=by decide +kernel
    refine⟨Ei (h1 u hu),h2 u hu,?_⟩;unfold Xg Yf;simp only[Zo];have h3:∀u∈([[43,43],[45,45]]:List (List UInt8)),(u==[58,61])=false∧(u==[61]||(u==[43,61]||(u==[45,61]||(u==[42,61]||(u==[47,61]||u==[37,61])))))=false∧(u==[43,43]||u==[45,45])=true:=by decide
    exact h3 u hu
   rcases htx with h|h <;> (rw[jM h];exact key _ (by decide))
  have hsp:sp 22 x (.cons k0 x0 e0 c0 .nil)=sp k0 x0 c0++[KM x]:=rfl;rw[hsp,KA,List.cons_append,List.nil_append];unfold Zl;rw[K4 T (Gi (Z0 hp0)) hn0 (KM x::VR::rest) hop.1 hop.2.1,Rd.bind_ok,Qq,hop.2.2.1,if_neg (by decide),hop.2.2.2.1,if_neg (by decide),hop.2.2.2.2,if_pos rfl,Z3 (pc (Z0 hp0)),Rd.bind_ok];rfl
 ·
  obtain rfl:=Ve htx;obtain⟨k0,x0,y0,c0,r0,rfl,hp0,VZ⟩:=Zi (show Qe (.one [Qk [30]]::[]) c=true from ZE);obtain rfl:=Kw VZ;obtain rfl:=Vl (Z0 hp0);obtain⟨hn0,_⟩:=Qp hks;have hd0:down 23 e0 0 30 x0=0:=by simp[down,Qi,more]
  rw[hd0,Nat.add_zero]at hn0;have hy0:y0=e0:=Qr (Qd hn0).2.2.1;subst hy0;have hsp:sp 23 e0 (.cons 30 x0 e0 c0 .nil)=sp 30 x0 c0:=rfl;rw[hsp];unfold Zl;have ha:Xg VR=false:=by unfold Xg;simp only[Cv];rfl
  have hi:Yf VR=false:=by unfold Yf;simp only[Cv];rfl
  rw[K4 T (show Qg 30 x0=true from rfl) hn0 (VR::rest) Fp Fy,Rd.bind_ok,Qq,Cv,if_neg (by decide),ha,if_neg (by decide),hi,if_neg (by decide),Z3 (show((30:Int)==30)=true from rfl),Rd.bind_ok];rfl
theorem mZ(T:TxtOk nm tk){k:Int}{x y:ByteArray}{c:F}{it:Bool}{d:Nat}(hk:k=21∨k=22∨k=23)(hn:Zg nm tk k x y c it d=true):∃t w,sp k x c=t::w∧FJ nm tk t:=by
 obtain⟨hd,htx,htr,ZE,hks⟩:=Qd hn;have fin:∀(k0:Int)(x0 y0:ByteArray)(c0 r:F),c=.cons k0 x0 y0 c0 r→Qg k0 x0=true→(∃v,sp k x c=sp k0 x0 c0++v)→∃t w,sp k x c=t::w∧FJ nm tk t:=by
  rintro k0 x0 y0 c0 r rfl hv ⟨v,e⟩;obtain⟨hn0,_⟩:=Qp hks;have hh:Zg nm tk k0 x0 y0 c0 (holds k) (d+down k x 0 k0 x0)=true:=hn0;have hf:holds k=false:=by rcases hk with rfl|rfl|rfl <;> rfl
  rw[hf]at hh;obtain⟨t,w,e2,h1,_⟩:=Uc c0.size k0 x0 y0 c0 _ (Nat.le_refl _) hv hh;exact⟨t,w++v,by rw[e,e2];rfl,h1⟩
 rcases hk with rfl|rfl|rfl
 ·have hb:(if x.toList==[58,61]then Qe [.one [Qk [9]],.one [Qg]] c else Qe [.one [Zv],.one [Qg]] c)=true:=ZE;split at hb
  ·obtain⟨k0,x0,y0,c0,r0,rfl,hp0,VZ⟩:=Zi hb;obtain rfl:=Vl (Z0 hp0);exact fin _ x0 y0 c0 r0 rfl rfl ⟨_,rfl⟩
  ·obtain⟨k0,x0,y0,c0,r0,rfl,hp0,VZ⟩:=Zi hb;exact fin k0 x0 y0 c0 r0 rfl (Gi (Z0 hp0)) ⟨_,rfl⟩
 ·obtain⟨k0,x0,y0,c0,r0,rfl,hp0,VZ⟩:=Zi (show Qe (.one [Zv]::[]) c=true from ZE);exact fin k0 x0 y0 c0 r0 rfl (Gi (Z0 hp0)) ⟨_,rfl⟩
 ·obtain⟨k0,x0,y0,c0,r0,rfl,hp0,VZ⟩:=Zi (show Qe (.one [Qk [30]]::[]) c=true from ZE);obtain rfl:=Vl (Z0 hp0);exact fin _ x0 y0 c0 r0 rfl rfl ⟨[],(List.append_nil _).symm⟩
end
