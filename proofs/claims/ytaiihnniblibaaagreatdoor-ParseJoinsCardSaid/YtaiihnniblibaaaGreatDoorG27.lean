import Derived.Test.YtaiihnniblibaaaGreatDoorG26
set_option linter.unusedVariables false
open _root_.List renaming length_append→JF,append_assoc→KA,length_cons→VX
namespace Go.Proofs.YtaiihnniblibaaaGreatDoor
namespace JI
open Tree QB
def ba(u:List UInt8):ByteArray:=⟨u.toArray⟩
theorem Yp(u:List UInt8):(ba u).toList=u:=by rw[ByteArray.toList_eq];rfl
def ZG(u:List UInt8):Tk:=⟨4,ba u,0,false⟩
def JP(u:List UInt8):Tk:=⟨1,ba u,0,false⟩
def XL(x:ByteArray):Tk:=⟨1,x,0,false⟩
def CY(x:ByteArray):Tk:=⟨2,x,0,false⟩
def SK(x:ByteArray):Tk:=⟨3,x,0,false⟩
def KM(x:ByteArray):Tk:=⟨4,x,0,false⟩
def VR:Tk:=⟨6,e0,0,false⟩
def Pq(x:ByteArray)(f:Bool):Tk:=⟨5,x,0,f⟩
theorem Zo(u w:List UInt8):QQ (ZG u) w=(u==w):=by unfold QQ ZG;rw[Yp]
theorem V0(u w:List UInt8):QQ (JP u) w=(u==w):=by unfold QQ JP;rw[Yp]
theorem Cv(w:List UInt8):QQ VR w=(([]:List UInt8)==w):=by unfold QQ VR;rw[Xn]
theorem Qq(z:Nat)(t:Tk)(l:List Tk):QB.hd z (t::l)=t:=rfl
structure TxtOk(nm:ByteArray→Bool)(tk:ByteArray→Int→Bool):Prop where
 w:∀x,nm x=true→Lex.isWord (ZA x)=false
 n:∀x,nm x=true→∃b r,x.toList=b::r∧((65≤b.toNat∧b.toNat≤90)∨(97≤b.toNat∧b.toNat≤122)∨b.toNat=95)
 i:∀x,tk x 2=true→∃b r,x.toList=b::r∧48≤b.toNat∧b.toNat≤57
 s:∀x,tk x 3=true→∃r,x.toList=34::r
 r:∀x,tk x 5=true→∃r,x.toList=47::r
def Pl(b:UInt8):Prop:=(65≤b.toNat∧b.toNat≤90)∨(97≤b.toNat∧b.toNat≤122)∨b.toNat=95∨(48≤b.toNat∧b.toNat≤57)∨b.toNat=34
theorem ke{t:Tk}{b:UInt8}{r:List UInt8}(hx:t.x.toList=b::r)(hb:Pl b){a:UInt8}{u:List UInt8}(ha:¬Pl a):QQ t (a::u)=false:=by
 unfold QQ;rw[hx];refine beq_eq_false_iff_ne.2 fun q=>ha ?_
 injection q with q _;rw[←q];exact hb
theorem V1:∀a∈([124,38,61,33,60,62,43,45,94,42,47,37,40,41,91,93,123,125,44,46,58]:List UInt8),¬Pl a:=by unfold Pl;decide
def E5(t:Tk):Prop:=QQ t [40]=false∧QQ t [91]=false∧QQ t [46]=false
def N5(t:Tk):Prop:=¬(t.kind=5∧t.first=false)
def GX(c:F)(i:Nat):Int:=match c.drop i with
 | .nil=>33
 | .cons k _ _ _ _=>k
def LI(c:F)(i:Nat):ByteArray:=match c.drop i with
 | .nil=>e0
 | .cons _ x _ _ _=>x
def gA(ws:List (List Tk))(i:Nat):List Tk:=ws.getD i []
def Kl(b:Bool)(w:List Tk):List Tk:=if b=true then ZG [40]::(w++[ZG [41]])else w
def Jh(k:Int)(x y:ByteArray)(w:List Tk):List Tk:=if k=8 then[Pq x true]else w++VR::(if y.toList=[]then[]else[Pq y false])
def Qs:F→List (List Tk)→List Tk
 | .cons k x y _ r,w::ws=>Jh k x y w++Qs r ws
 |_,_=>[]
def Zs:List (List Tk)→List Tk
 |[]=>[]
 |w::ws=>w++(match ws with
  |[]=>[]
  |_::_=>ZG [44]::Zs ws)
def yS(k:Int)(x:ByteArray)(c:F)(ws:List (List Tk)):List Tk :=
 if k=2 then[JP [112,97,99,107,97,103,101],XL x]
 else if k=3 then[JP [105,109,112,111,114,116],SK x]
 else if k=4 then JP [99,111,110,115,116]::XL x::ZG [61]::gA ws 0
 else if k=5 then JP [118,97,114]::XL x::((if GX c 0=33 then[]else gA ws 0)++(if GX c 1=33 then[]else ZG [61]::gA ws 1))
 else if k=6 then JP [116,121,112,101]::XL x::gA ws 0
 else if k=7 then JP [102,117,110,99]::((if GX c 0=33 then[]else ZG [40]::(gA ws 0++[ZG [41]]))++XL x::ZG [40]::(gA ws 1++ZG [41]::((if GX c 2=33 then[]else gA ws 2)++gA ws 3)))
 else if k=8 then[Pq x true]
 else if k=9 then[XL x]
 else if k=10 then ZG [42]::gA ws 0
 else if k=11 then ZG [91]::ZG [93]::gA ws 0
 else if k=12 then JP [109,97,112]::ZG [91]::(gA ws 0++ZG [93]::gA ws 1)
 else if k=13 then JP [115,116,114,117,99,116]::ZG [123]::(Qs c ws++[ZG [125]])
 else if k=14∨k=16 then XL x::gA ws 0
 else if k=15 then Zs ws
 else if k=17 then ZG [123]::(Qs c ws++[ZG [125]])
 else if k=18 then JP [105,102]::(gA ws 0++gA ws 1++(if GX c 2=33 then[]else JP [101,108,115,101]::gA ws 2))
 else if k=19 then JP [102,111,114]::((if GX c 0=33 then[]else gA ws 0)++gA ws 1)
 else if k=20 then JP [114,101,116,117,114,110]::Zs ws
 else if k=21 then gA ws 0++KM x::gA ws 1
 else if k=22 then gA ws 0++[KM x]
 else if k=23 then gA ws 0
 else if k=24 then[JP [98,114,101,97,107]]
 else if k=25 then[JP [99,111,110,116,105,110,117,101]]
 else if k=26 then[CY x]
 else if k=27 then[SK x]
 else if k=28 then KM x::Kl (Qi 28 x 0 (GX c 0) (LI c 0)) (gA ws 0)
 else if k=29 then Kl (Qi 29 x 0 (GX c 0) (LI c 0)) (gA ws 0)++KM x::Kl (Qi 29 x 1 (GX c 1) (LI c 1)) (gA ws 1)
 else if k=30 then Kl (Qi 30 x 0 (GX c 0) (LI c 0)) (gA ws 0)++ZG [40]::(Zs ws.tail++[ZG [41]])
 else if k=31 then Kl (Qi 31 x 0 (GX c 0) (LI c 0)) (gA ws 0)++ZG [91]::(gA ws 1++[ZG [93]])
 else if k=32 then Kl (Qi 32 x 0 (GX c 0) (LI c 0)) (gA ws 0)++[ZG [46],XL x]
 else[]
def Qw:F→List (List Tk)
 | .nil=>[]
 | .cons k x _ c r=>yS k x c (Qw c)::Qw r
def sp(k:Int)(x:ByteArray)(c:F):List Tk:=yS k x c (Qw c)
theorem Kk(k:Int)(x y:ByteArray)(c r:F):Qw (.cons k x y c r)=sp k x c::Qw r:=rfl
section
variable {nm:ByteArray→Bool}{tk:ByteArray→Int→Bool}{k:Int}{x y:ByteArray}{c:F}{it:Bool}{d:Nat}
theorem Qd(h:Zg nm tk k x y c it d=true):d≤256∧Q2 nm tk k x=true∧Vj tk k y it=true∧Q1 k x c=true∧Z4 nm tk k x (holds k) d 0 c=true:=by
 unfold Zg Fb at h;simp only[Bool.and_eq_true,decide_eq_true_eq]at h;exact⟨h.1.1,h.1.2.1,h.1.2.2.1,h.1.2.2.2,h.2⟩
theorem Qr{k:Int}(h:Vj tk k y false=true):y=e0:=by
 unfold Vj at h;rw[Bool.false_and,Bool.or_false,beq_iff_eq]at h;exact Jp (by rw[h,Xn])
theorem gH(h:Vj tk 8 y it=true):y=e0:=by
 unfold Vj at h;rw[show((8:Int) != 8)=false from rfl,Bool.false_and,Bool.and_false,Bool.or_false,beq_iff_eq]at h;exact Jp (by rw[h,Xn])
theorem Ve(h:(x.toList==([]:List UInt8))=true):x=e0:=Jp (by rw[beq_iff_eq.1 h,Xn])
theorem Kw{f:F}(h:Qe [] f=true):f=.nil:=by
 cases f with
 |nil=>rfl
 |cons=>cases h
theorem Zi{l:List (Int→ByteArray→Bool)}{ps:List Pt}{f:F}(h:Qe (.one l::ps) f=true):∃k x y c r,f = .cons k x y c r∧(l.any fun p=>p k x)=true∧Qe ps r=true:=by
 cases f with
 |nil=>cases h
 |cons k x y c r =>
  have h:(match(if(l.any fun p=>p k x)=true then some r else none)with
   |none=>false
   |some g=>Qe ps g)=true:=h
  by_cases hp:(l.any fun p=>p k x)=true
  ·rw[if_pos hp]at h;exact⟨k,x,y,c,r,rfl,hp,h⟩
  ·rw[if_neg hp]at h;cases h
def K7(p:Int→ByteArray→Bool):F→Prop
 | .nil=>True
 | .cons k x _ _ r=>p k x=true∧K7 p r
theorem Eb{p:Int→ByteArray→Bool}:∀{f:F},Qe [.many p] f=true→K7 p f
 | .nil,_=>trivial
 | .cons k x y c r,h=>by
  have h:Qe [] (if p k x=true then Kv p r else .cons k x y c r)=true:=h;by_cases hp:p k x=true
  ·rw[if_pos hp]at h;refine⟨hp,Eb (f:=r) ?_⟩;exact h
  ·rw[if_neg hp]at h;cases h
theorem len_nil{f:F}(h:decide (f.len=0)=true):f=.nil:=F.UR (of_decide_eq_true h)
end
structure Rh(z:Nat)(rd:Nat→List Tk→Rd Nd)(d B:Nat)(k:Int)(x:ByteArray)(c:F)(w:List Tk):Prop where
 rd:∀rest,(w++VR::rest).length<B→rd d (w++VR::rest)=.ok ⟨k,x,e0,c⟩ (VR::rest)
 hd:∃t r,w=t::r∧t.kind≠5∧QQ t [125]=false
theorem xx(z:Nat)(y:ByteArray)(rest:List Tk)(h:N5 (QB.hd z rest)):QB.over z (VR::((if y.toList=[]then[]else[Pq y false])++rest))=.ok y rest:=by
 unfold QB.over;rw[Qq,Cv,if_neg (by decide),if_pos (show VR.kind=6 from rfl),List.tail_cons];by_cases hy:y.toList=[]
 ·rw[if_pos hy,List.nil_append,if_neg h];rw[show y=e0 from Jp (by rw[hy,Xn])]
 ·rw[if_neg hy];rfl
section
variable {z d B:Nat}{rd:Nat→List Tk→Rd Nd}{k:Int}{x y:ByteArray}{c:F}{w:List Tk}
theorem xR(hd:d≤256)(hn:k=8→y=e0∧c=.nil)(h:k≠8→Rh z rd d B k x c w)(rest:List Tk)(hr:N5 (QB.hd z rest))(hB:(Jh k x y w++rest).length<B) :
  item z rd d (Jh k x y w++rest)=.ok ⟨k,x,y,c⟩ rest:=by
 unfold Jh item at *;by_cases h8:k=8
 ·obtain⟨rfl,rfl⟩:=hn h8;subst h8;rw[if_pos rfl];show(if(5:Int)=5 then _ else _)=_;rw[if_pos rfl];unfold J';rw[if_pos rfl,if_neg (by omega)];rfl
 ·rw[if_neg h8]at hB⊢;obtain⟨h1,t,r,rfl,h5,_⟩:=h h8;rw[KA,List.cons_append,List.cons_append]at hB⊢;rw[Qq,if_neg h5];have:=h1 ((if y.toList=[]then[]else[Pq y false])++rest) hB;rw[List.cons_append]at this;rw[this,Rd.bind_ok,xx z y rest hr,Rd.bind_ok]
theorem ng(h:k≠8→Rh z rd d B k x c w)(hb:k=8→QQ (Pq x true) [125]=false)(rest:List Tk) :
  ∃t r,Jh k x y w++rest=t::r∧N5 t∧QQ t [125]=false:=by
 unfold Jh;by_cases h8:k=8
 ·rw[if_pos h8];exact⟨Pq x true,rest,rfl,fun q=>(by cases q.2),hb h8⟩
 ·rw[if_neg h8];obtain⟨_,t,r,rfl,h5,hb'⟩:=h h8;exact⟨t,_,rfl,fun q=>h5 q.1,hb'⟩
end
def Yq(z:Nat)(rd:Nat→List Tk→Rd Nd)(d B:Nat):F→Prop
 | .nil=>True
 | .cons k x y c r=>d≤256∧(k=8→y=e0∧c=.nil∧QQ (Pq x true) [125]=false)∧(k≠8→Rh z rd d B k x c (sp k x c))∧Yq z rd d B r
section
variable {z d B:Nat}{rd:Nat→List Tk→Rd Nd}
theorem gz:∀{f:F},Yq z rd d B f→∀rest,N5 (QB.hd z rest)→N5 (QB.hd z (Qs f (Qw f)++rest))
 | .nil,_,rest,h=>h
 | .cons k x y c r,⟨_,h1,h2,_⟩,rest,_=>by
  rw[Kk];show N5 (QB.hd z (Jh k x y (sp k x c)++Qs r (Qw r)++rest));rw[KA];obtain⟨t,r',e,h5,_⟩:=ng (z:=z) (y:=y) h2 (fun q=>(h1 q).2.2) (Qs r (Qw r)++rest);rw[e];exact h5
theorem mF:∀(f:F),Yq z rd d B f→∀(rest:List Tk)(g:Nat),(Qs f (Qw f)++ZG [125]::rest).length<g→(Qs f (Qw f)++ZG [125]::rest).length<B→
  items z (item z rd d) g (Qs f (Qw f)++ZG [125]::rest)=.ok f (ZG [125]::rest)
 | .nil,_,rest,g,hg,_=>by
  obtain⟨g,rfl⟩:∃q,g=q+1:=⟨g-1,by omega⟩;unfold items;rw[if_pos (show QQ (QB.hd z (Qs .nil (Qw .nil)++ZG [125]::rest)) [125]=true from Zo _ _)];rfl
 | .cons k x y c r,⟨hd,h1,h2,h3⟩,rest,g,hg,hB=>by
  obtain⟨g,rfl⟩:∃q,g=q+1:=⟨g-1,by omega⟩;have e:Qs (.cons k x y c r) (Qw (.cons k x y c r))++ZG [125]::rest=Jh k x y (sp k x c)++(Qs r (Qw r)++ZG [125]::rest):=by rw[Kk,Qs,KA]
  rw[e]at hg hB⊢;obtain⟨t,r',e2,h5,hb⟩:=ng (z:=z) (y:=y) h2 (fun q=>(h1 q).2.2) (Qs r (Qw r)++ZG [125]::rest);have h6:0<(Jh k x y (sp k x c)).length:=by
   unfold Jh;split
   ·simp
   ·simp only[JF,List.length_cons];omega
  have hlen:(Qs r (Qw r)++ZG [125]::rest).length<g:=by rw[JF]at hg;omega
  have hlB:(Qs r (Qw r)++ZG [125]::rest).length<B:=by rw[JF]at hB;omega
  unfold items;rw[show QQ (QB.hd z (Jh k x y (sp k x c)++(Qs r (Qw r)++ZG [125]::rest))) [125]=false by rw[e2];exact hb,if_neg (by decide)];rw[xR hd (fun q=>⟨(h1 q).1,(h1 q).2.1⟩) h2 _ (gz h3 _ (fun q=>by cases q.1)) hB,Rd.bind_ok,mF r h3 rest g hlen hlB,Rd.bind_ok];rfl
theorem Yo(f:F)(h:Yq z rd (d+1) B f)(rest:List Tk)(hd:d≤256)(hB:(ZG [123]::(Qs f (Qw f)++[ZG [125]])++rest).length≤B):Jy z rd d (ZG [123]::(Qs f (Qw f)++[ZG [125]])++rest)=.ok f rest:=by
 rw[List.cons_append,KA,List.cons_append,List.nil_append]at hB⊢;unfold Jy J';rw[Qq,Zo,if_pos (by decide),if_neg (by omega),Rd.bind_ok,List.tail_cons];rw[mF f h rest _ (Nat.lt_succ_self _) hB,Rd.bind_ok];unfold QB.want;rw[Qq,Zo,if_pos (by decide)];rfl
end
def Ay(rd:List Tk→Rd Nd)(B:Nat):F→Prop
 | .nil=>True
 | .cons k x y c r=>y=e0∧(∀t rest,t=ZG [44]∨t=ZG [41]→(sp k x c++t::rest).length<B→rd (sp k x c++t::rest)=.ok ⟨k,x,e0,c⟩ (t::rest))∧(∃t w,sp k x c=t::w∧QQ t [41]=false)∧Ay rd B r
theorem tU{z B:Nat}{rd:List Tk→Rd Nd}:∀(f:F),Ay rd B f→∀(rest:List Tk)(g:Nat),(Zs (Qw f)++ZG [41]::rest).length<g→(Zs (Qw f)++ZG [41]::rest).length<B→
  args z rd g (Zs (Qw f)++ZG [41]::rest)=.ok f (ZG [41]::rest)
 | .nil,_,rest,g,hg,_=>by
  obtain⟨g,rfl⟩:∃q,g=q+1:=⟨g-1,by omega⟩;unfold args;rw[if_pos (show QQ (QB.hd z (Zs (Qw .nil)++ZG [41]::rest)) [41]=true from Zo _ _)];rfl
 | .cons k x y c .nil,⟨hy,h1,⟨t,w,e,h2⟩,_⟩,rest,g,hg,hB=>by
  obtain⟨g,rfl⟩:∃q,g=q+1:=⟨g-1,by omega⟩;have e1:Zs (Qw (.cons k x y c .nil))=sp k x c:=by rw[Kk];show sp k x c++[]=_;rw[List.append_nil]
  rw[e1]at hg hB⊢;obtain⟨g,rfl⟩:∃q,g=q+1:=⟨g-1,by rw[e]at hg;simp at hg;omega⟩;subst hy;unfold args;rw[show QQ (QB.hd z (sp k x c++ZG [41]::rest)) [41]=false by rw[e];exact h2,if_neg (by decide),h1 _ _ (.inr rfl) hB,Rd.bind_ok];unfold Uf;rw[Qq,Zo,if_pos (by decide),Rd.bind_ok];unfold args;rw[Qq,Zo,if_pos (by decide)];rfl
 | .cons k x y c (.cons k2 x2 y2 c2 r2),⟨hy,h1,⟨t,w,e,h2⟩,h3⟩,rest,g,hg,hB=>by
  obtain⟨g,rfl⟩:∃q,g=q+1:=⟨g-1,by omega⟩;have e1:Zs (Qw (.cons k x y c (.cons k2 x2 y2 c2 r2)))=sp k x c++ZG [44]::Zs (Qw (.cons k2 x2 y2 c2 r2)):=by rw[Kk,Kk];rfl
  rw[e1,KA,List.cons_append]at hg hB⊢;subst hy;unfold args;rw[show QQ (QB.hd z (sp k x c++ZG [44]::(Zs (Qw (.cons k2 x2 y2 c2 r2))++ZG [41]::rest))) [41]=false by rw[e];exact h2,if_neg (by decide),h1 _ _ (.inl rfl) hB,Rd.bind_ok];unfold Uf QB.want;rw[Qq,Zo,if_neg (by decide),Zo,if_pos (by decide),Rd.bind_ok,List.tail_cons];rw[JF]at hg hB;simp only[List.length_cons]at hg hB;rw[tU (.cons k2 x2 y2 c2 r2) h3 rest g (by omega) (by omega),Rd.bind_ok];rfl
theorem np{z B:Nat}{rd:Nat→List Tk→Rd Nd}{d:Nat}(f:F)(h:Ay (rd (d+1)) B f)(rest:List Tk)(hB:(ZG [40]::(Zs (Qw f)++ZG [41]::rest)).length≤B):list z rd d (ZG [40]::(Zs (Qw f)++ZG [41]::rest))=.ok f rest:=by
 unfold list QB.want;rw[Qq,Zo,if_pos (by decide),Rd.bind_ok,List.tail_cons,tU f h rest _ (Nat.lt_succ_self _) hB,Rd.bind_ok,Qq,Zo,if_pos (by decide),Rd.bind_ok];rfl
section
variable {nm:ByteArray→Bool}{tk:ByteArray→Int→Bool}(T:TxtOk nm tk)
include T
theorem gM{x:ByteArray}(h:nm x=true):∃b r,x.toList=b::r∧Pl b:=by
 obtain⟨b,r,e,h⟩:=T.n x h;exact⟨b,r,e,by unfold Pl;omega⟩
theorem My{x:ByteArray}(h:nm x=true){a:UInt8}{u:List UInt8}(ha:¬Pl a):QQ (XL x) (a::u)=false:=by
 obtain⟨b,r,e,hb⟩:=gM T h;exact ke (t:=XL x) e hb ha
theorem Yv{x:ByteArray}(h:nm x=true):Je (XL x)=true:=by
 unfold Je XL;rw[show(((1:Int))==1)=true from rfl,T.w x h];rfl
theorem jK{x:ByteArray}(h:nm x=true){u:List UInt8}(hu:Lex.isWord (u.map fun b=>(b.toNat:Int))=true):QQ (XL x) u=false:=by
 unfold QQ XL;refine beq_eq_false_iff_ne.2 fun q=>?_
 have:=T.w x h;unfold ZA at this;have q:x.toList=u:=q;rw[q,hu]at this;cases this
theorem Q1y{x:ByteArray}(h:nm x=true):QB.V' (XL x)=true:=by
 unfold QB.V';rw[Yv T h];simp
end
theorem Jc{z d:Nat}{t:Tk}{l:List Tk}(hd:d≤256){f:Bool}(hf:f=true):J' z f d (t::l)=.ok t l:=by
 unfold J';rw[if_pos hf,if_neg (by omega)];rfl
theorem Kx{z:Nat}{u:List UInt8}{t:Tk}{l:List Tk}(h:QQ t u=true):QB.want z u (t::l)=.ok () l:=by
 unfold QB.want;rw[Qq,if_pos h];rfl
theorem Y7{z:Nat}{x:ByteArray}{l:List Tk}(h:Je (XL x)=true):QB.name z (XL x::l)=.ok x l:=by
 unfold QB.name;rw[Qq,if_pos h];rfl
theorem Xz{k:Int}{x:ByteArray}(h:Qt k x=true):k=9∨k=10∨k=11∨k=12∨k=13:=by
 unfold Qt at h;simp only[Bool.or_eq_true,beq_iff_eq]at h;omega
theorem Qp{nm:ByteArray→Bool}{tk:ByteArray→Int→Bool}{pk:Int}{px:ByteArray}{it:Bool}{d i:Nat}{k:Int}{x y:ByteArray}{c r:F}(h:Z4 nm tk pk px it d i (.cons k x y c r)=true) :
  Zg nm tk k x y c it (d+down pk px i k x)=true∧Z4 nm tk pk px it d (i+1) r=true:=by
 rw[G0,Bool.and_eq_true]at h;exact h
theorem Z0{p:Int→ByteArray→Bool}{k:Int}{x:ByteArray}(h:([p].any fun p=>p k x)=true):p k x=true:=by simpa using h
theorem Vl{a k:Int}{x:ByteArray}(h:Qk [a] k x=true):k=a:=by
 unfold Qk at h;simpa using h
theorem Bb{a b k:Int}{x:ByteArray}(h:Qk [a,b] k x=true):k=a∨k=b:=by
 unfold Qk at h;simpa using h
theorem Ga{k:Int}{x y:ByteArray}{c r:F}:(F.cons k x y c r).size=c.size+r.size+1:=rfl
section
variable {nm:ByteArray→Bool}{tk:ByteArray→Int→Bool}(T:TxtOk nm tk)
theorem Qsh{k:Int}{x:ByteArray}{c:F}(h:Qt k x=true):∃t w,sp k x c=t::w∧(t=XL x∧k=9∨t=ZG [42]∨t=ZG [91]∨t=JP [109,97,112]∨t=JP [115,116,114,117,99,116]):=by
 rcases Xz h with rfl|rfl|rfl|rfl|rfl
 ·exact⟨_,_,rfl,.inl ⟨rfl,rfl⟩⟩
 ·exact⟨_,_,rfl,.inr (.inl rfl)⟩
 ·exact⟨_,_,rfl,.inr (.inr (.inl rfl))⟩
 ·exact⟨_,_,rfl,.inr (.inr (.inr (.inl rfl)))⟩
 ·exact⟨_,_,rfl,.inr (.inr (.inr (.inr rfl)))⟩
def cX(nm:ByteArray→Bool)(tk:ByteArray→Int→Bool)(z N:Nat):Prop:=∀k x y c d,c.size≤N→Qt k x=true→Zg nm tk k x y c false d=true→∀f rest,(sp k x c++rest).length<f→NK z f d (sp k x c++rest)=.ok ⟨k,x,e0,c⟩ rest
include T
theorem nU{z N:Nat}(ih:cX nm tk z N){f d:Nat}{px:ByteArray}:∀(r:F)(i:Nat),r.size≤N+1→K7 (Qk [14,8]) r→Z4 nm tk 13 px true d i r=true→Yq z (Vq z 14 (NK z f)) (d+1) (f+1) r
 | .nil,_,_,_,_=>trivial
 | .cons k x y c r,i,hN,⟨ha,har⟩,hk=>by
  obtain⟨hn,hr⟩:=Qp hk;rw[Ga]at hN;have GW:down 13 px i k x=1:=by simp[down,Qi,more]
  rw[GW]at hn;obtain⟨hd,htx,htr,ZE,hks⟩:=Qd hn;refine⟨hd,fun h8=>?_,fun h8=>?_,nU ih r (i+1) (by omega) har hr⟩
  ·subst h8;refine⟨gH htr,len_nil ZE,?_⟩;obtain⟨q,e⟩:=T.r x htx;unfold QQ;rw[show(Pq x true).x.toList=47::q from e];rfl
  ·have OT:k=14:=by
    rcases Bb ha with h|h
    ·exact h
    ·exact absurd h h8
   subst OT;have htx:nm x=true:=htx;obtain⟨k0,x0,y0,c0,r0,rfl,hp,VZ⟩:=Zi (show Qe (.one [Qt]::[]) c=true from ZE);obtain rfl:=Kw VZ;obtain⟨hn0,_⟩:=Qp hks;have LL:down 14 x 0 k0 x0=0:=by simp[down,Qi,more]
   rw[LL]at hn0;have hy0:y0=e0:=Qr (Qd hn0).2.2.1;subst hy0;have hsp:sp 14 x (.cons k0 x0 e0 c0 .nil)=XL x::sp k0 x0 c0:=rfl;refine⟨fun rest hB=>?_,⟨_,_,hsp,⟨fun q=>(by cases q),My T htx (V1 125 (by decide))⟩⟩⟩;rw[hsp,List.cons_append]at hB⊢;unfold Vq;rw[Qq,Jc hd (Yv T htx),Rd.bind_ok];rw[Ga]at hN;rw[ih k0 x0 e0 c0 (d+1) (by omega) (Z0 hp) hn0 f _ (by simp only[VX]at hB;omega),Rd.bind_ok];rfl
theorem Qsf(z:Nat):∀N,cX nm tk z N:=by
 intro N
 induction N using Nat.strongRecOn with
 |_ N ih =>
  intro k x y c d hN hk hn f rest hf;obtain⟨hd,htx,htr,ZE,hks⟩:=Qd hn;obtain⟨f,rfl⟩:∃q,f=q+1:=⟨f-1,by omega⟩;show(J' z (QB.V' (QB.hd z (sp k x c++rest))) d (sp k x c++rest)).bind (fun t l=>Kf z (NK z f) d t l)=_;rcases Xz hk with rfl|rfl|rfl|rfl|rfl
  ·have htx:nm x=true:=htx;obtain rfl:=len_nil ZE;rw[show sp 9 x .nil=[XL x]from rfl,List.cons_append,List.nil_append,Qq,Jc hd (Q1y T htx),Rd.bind_ok];unfold Kf;rw[My T htx (V1 42 (by decide)),if_neg (by decide),My T htx (V1 91 (by decide)),if_neg (by decide),jK T htx (by decide),if_neg (by decide),jK T htx (by decide),if_neg (by decide)];rfl
  ·obtain rfl:=Ve htx;obtain⟨k0,x0,y0,c0,r0,rfl,hp,VZ⟩:=Zi (show Qe (.one [Qt]::[]) c=true from ZE);obtain rfl:=Kw VZ;obtain⟨hn0,_⟩:=Qp hks;have LL:down 10 e0 0 k0 x0=1:=by simp[down,Qi,more]
   rw[LL]at hn0;have hy0:y0=e0:=Qr (Qd hn0).2.2.1;subst hy0;have hsp:sp 10 e0 (.cons k0 x0 e0 c0 .nil)=ZG [42]::sp k0 x0 c0:=rfl;rw[hsp,List.cons_append]at hf⊢;rw[Qq,Jc hd (show QB.V' (ZG [42])=true by unfold QB.V';rw[Zo];rfl),Rd.bind_ok];unfold Kf;rw[Zo,if_pos (by decide)];rw[Ga]at hN;rw[ih c0.size (by omega) k0 x0 e0 c0 (d+1) (Nat.le_refl _) (Z0 hp) hn0 f rest (by simp only[VX]at hf;omega),Rd.bind_ok];rfl
  ·obtain rfl:=Ve htx;obtain⟨k0,x0,y0,c0,r0,rfl,hp,VZ⟩:=Zi (show Qe (.one [Qt]::[]) c=true from ZE);obtain rfl:=Kw VZ;obtain⟨hn0,_⟩:=Qp hks;have LL:down 11 e0 0 k0 x0=1:=by simp[down,Qi,more]
   rw[LL]at hn0;have hy0:y0=e0:=Qr (Qd hn0).2.2.1;subst hy0;have hsp:sp 11 e0 (.cons k0 x0 e0 c0 .nil)=ZG [91]::ZG [93]::sp k0 x0 c0:=rfl;rw[hsp,List.cons_append,List.cons_append]at hf⊢;rw[Qq,Jc hd (show QB.V' (ZG [91])=true by unfold QB.V';rw[Zo,Zo];rfl),Rd.bind_ok];unfold Kf;rw[Zo,if_neg (by decide),Zo,if_pos (by decide),Kx (by rw[Zo];rfl),Rd.bind_ok];rw[Ga]at hN;rw[ih c0.size (by omega) k0 x0 e0 c0 (d+1) (Nat.le_refl _) (Z0 hp) hn0 f rest (by simp only[VX]at hf;omega),Rd.bind_ok];rfl
  ·obtain rfl:=Ve htx;obtain⟨k0,x0,y0,c0,r0,rfl,hp,VZ⟩:=Zi (show Qe (.one [Qt]::.one [Qt]::[]) c=true from ZE);obtain⟨k1,x1,y1,c1,r1,rfl,hp1,hr1⟩:=Zi VZ;obtain rfl:=Kw hr1;obtain⟨hn0,JL⟩:=Qp hks;obtain⟨JU,_⟩:=Qp JL;have LL:down 12 e0 0 k0 x0=1:=by simp[down,Qi,more]
   have DD:down 12 e0 (0+1) k1 x1=1:=by simp[down,Qi,more]
   rw[LL]at hn0;rw[DD]at JU;have hy0:y0=e0:=Qr (Qd hn0).2.2.1;have hy1:y1=e0:=Qr (Qd JU).2.2.1;subst hy0;subst hy1;have hsp:sp 12 e0 (.cons k0 x0 e0 c0 (.cons k1 x1 e0 c1 .nil))=JP [109,97,112]::ZG [91]::(sp k0 x0 c0++ZG [93]::sp k1 x1 c1):=rfl;rw[hsp,List.cons_append,List.cons_append,List.append_assoc,List.cons_append]at hf⊢;rw[Qq,Jc hd (show QB.V' (JP [109,97,112])=true by unfold QB.V';rw[V0,V0,V0];rfl),Rd.bind_ok];unfold Kf;rw[V0,if_neg (by decide),V0,if_neg (by decide),V0,if_pos (by decide),Kx (by rw[Zo];rfl),Rd.bind_ok];simp only[Ga]at hN;simp only[VX,JF]at hf;rw[ih c0.size (by omega) k0 x0 e0 c0 (d+1) (Nat.le_refl _) (Z0 hp) hn0 f _ (by simp only[VX,JF];omega),Rd.bind_ok];rw[Kx (by rw[Zo];rfl),Rd.bind_ok];rw[ih c1.size (by omega) k1 x1 e0 c1 (d+1) (Nat.le_refl _) (Z0 hp1) JU f rest (by simp only[JF];omega),Rd.bind_ok];rfl
  ·obtain rfl:=Ve htx;have hall:=Eb (show Qe [.many (Qk [14,8])] c=true from ZE);have hsp:sp 13 e0 c=JP [115,116,114,117,99,116]::(ZG [123]::(Qs c (Qw c)++[ZG [125]])):=rfl;rw[hsp,List.cons_append]at hf⊢;rw[Qq,Jc hd (show QB.V' (JP [115,116,114,117,99,116])=true by unfold QB.V';rw[V0,V0,V0,V0];rfl),Rd.bind_ok];unfold Kf;rw[V0,if_neg (by decide),V0,if_neg (by decide),V0,if_neg (by decide),V0,if_pos (by decide)];cases N with
   |zero =>
    have:c=.nil:=by
     cases c with
     |nil=>rfl
     |cons k0 x0 y0 c0 r0=>rw[Ga]at hN;omega
    subst this;rw[Yo (B:=f+1) .nil trivial rest hd (by simp only[VX]at hf⊢;omega),Rd.bind_ok];rfl
   |succ N=>rw[Yo (B:=f+1) c (nU T (ih N (Nat.lt_succ_self _)) c 0 hN hall hks) rest hd (by simp only[VX]at hf⊢;omega),Rd.bind_ok];rfl
end
