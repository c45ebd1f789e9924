import Derived.Test.YtaiihnniblibaaaGreatDoorG01
import Derived.Maps.AppendAt
set_option linter.unusedVariables false
open Go.ChangeShapes Go.WideShapes Go.ChangeAt Go.RowKit
open _root_.Nat renaming le_refl→QH,zero_add→JN,lt_of_lt_of_le→JQ,le_trans→VJ
open _root_.List renaming length_cons→VX,length_append→JF
open Go.Value renaming string→σ,int→ι,slice→ς,bool→τ,agg→ξ
open Go.IntKind renaming i64→κ
open Go.Obj renaming cells→θ
open Go.Ending renaming returned→ρ
namespace Go.Proofs.YtaiihnniblibaaaGreatDoor
namespace Lex
def kd(c:Int):Int :=
 if 97≤c∧c≤122 then 1 else if 65≤c∧c≤90 then 1 else if c=95 then 1 else if 48≤c∧c≤57 then 2 else if c=34 then 3 else if c=59 then 6
 else if c=32 then 7 else if c=9 then 7 else if c=13 then 7 else if c=10 then 8 else 4
def Ka(c:Int):Bool:=kd c==1||kd c==2
def YD(c:Int):Bool:=kd c==2
def blk(c:Int):Bool:=kd c==7
def lead(p:Int→Bool):List Int→Nat
 |[]=>0
 |c::r=>if p c then lead p r+1 else 0
def K8(l:List Int):Nat:=lead Ka l
def Aa(l:List Int):Nat:=lead YD l
def PA(l:List Int):Nat:=if 1<Aa l∧l.getD 0 0=48 then 0 else Aa l
def Vy:List Int→Nat
 |[]=>0
 |c::r =>
  if c=34 then 1
  else if c=10 then 0
  else if c=92 then
   match r with
   |[]=>0
   |d::r'=>if d=10 then 0 else if Vy r'=0 then 0 else Vy r'+2
  else if Vy r=0 then 0 else Vy r+1
def Yt:List Int→Nat
 |[]=>0
 |_::r=>if Vy r=0 then 0 else Vy r+1
def Zy(l:List Int):Nat:=lead (fun c=>c != 10) l
def Jj:List Int→Nat
 |[]=>0
 |c::r=>if Jj r=0 then(if blk c then 0 else 1)else Jj r+1
def X3(l:List Int):Nat:=Jj (l.take (Zy l))
def Vw:List (List Int):=[[60,60],[62,62],[38,94],[38,38],[124,124],[61,61],[33,61],[60,61],[62,61],[58,61],[43,61],[45,61],[42,61],[47,61],[37,61],[43,43],[45,45]]
def V2:List (List Int):=[[40],[41],[91],[93],[123],[125],[44],[46],[61],[43],[45],[42],[47],[37],[38],[124],[94],[60],[62],[33]]
def Ks(l:List Int):Nat:=if l.take 2∈Vw then 2 else if l.take 1∈V2 then 1 else 0
def piece:List Int→Int×Nat
 |[]=>(4,0)
 |c::r =>
  if kd c=1 then(1,K8 (c::r))
  else if kd c=2 then(2,PA (c::r))
  else if kd c=3 then(3,Yt (c::r))
  else if kd c=4 then(if(c::r).take 2=[47,47]then(5,X3 (c::r))else(4,Ks (c::r)))
  else(kd c,1)
theorem Kh(p:Int→Bool):∀l,lead p l≤l.length
 |[]=>QH _
 |c::r=>by
  have:=Kh p r;simp only[lead,VX];split <;> omega
theorem Ev(p:Int→Bool):∀(l:List Int)(i:Nat),i<lead p l→p (l.getD i 0)=true
 |[],i,h=>by simp[lead]at h
 |c::r,i,h=>by
  simp only[lead]at h;split at h
  ·rename_i hc
   cases i with
   |zero=>simpa using hc
   |succ i=>simpa using Ev p r i (by omega)
  ·omega
theorem xW(p:Int→Bool):∀(l:List Int),lead p l<l.length→p (l.getD (lead p l) 0)=false
 |[],h=>by simp[lead]at h
 |c::r,h=>by
  simp only[lead,VX]at h⊢;split
  ·rename_i hc
   rw[if_pos hc]at h;simpa using xW p r (by omega)
  ·rename_i hc
   simpa using hc
theorem pD(p:Int→Bool)(hp:p 10=false)(z:List Int):∀l,lead p (l++10::z)=lead p l
 |[]=>by simp[lead,hp]
 |c::r=>by simp only[List.cons_append,lead,pD p hp z r]
theorem ni(p:Int→Bool)(t z:List Int)(h:lead p t=t.length)(hz:∀c r,z=c::r→p c=false):lead p (t++z)=t.length:=by
 induction t with
 |nil =>
  cases z with
  |nil=>rfl
  |cons c r=>simp[lead,hz c r rfl]
 |cons c r ih =>
  simp only[lead,VX]at h;split at h
  ·rename_i hc
   simp only[List.cons_append,lead,hc,if_true,VX,ih (by omega)]
  ·omega
theorem qY(c:Int):kd c=1∨kd c=2∨kd c=3∨kd c=4∨kd c=6∨kd c=7∨kd c=8:=by
 unfold kd;repeat' split
 all_goals omega
theorem jL{c:Int}:kd c=8↔c=10:=by
 unfold kd;repeat' split
 all_goals omega
theorem lM{c:Int}:kd c=7↔c=32∨c=9∨c=13:=by
 unfold kd;repeat' split
 all_goals omega
theorem lR{c:Int}:kd c=3↔c=34:=by
 unfold kd;repeat' split
 all_goals omega
theorem kU{c:Int}:kd c=6↔c=59:=by
 unfold kd;repeat' split
 all_goals omega
theorem lO{c:Int}:kd c=1↔(65≤c∧c≤90)∨(97≤c∧c≤122)∨c=95:=by
 unfold kd;repeat' split
 all_goals omega
theorem lN{c:Int}:kd c=2↔(48≤c∧c≤57):=by
 unfold kd;repeat' split
 all_goals omega
theorem RA{c:Int}:blk c=true↔c=32∨c=9∨c=13:=by unfold blk;rw[beq_iff_eq];exact lM
theorem kP:∀(n:Nat)(l:List Int),l.length≤n→Vy l≤l.length
 |_,[],_=>by simp[Vy]
 |0,_::_,h=>by simp at h
 |n+1,c::r,h=>by
  have hr:=kP n r (by simpa using h);unfold Vy;split
  ·simp
  split
  ·simp
  split
  ·cases r with
   |nil=>simp
   |cons d r' =>
    have hr':=kP n r' (by simp at h;omega);simp only[VX];split
    ·omega
    ·split <;> omega
  ·simp only[VX];split <;> omega
theorem tF(z:List Int):Vy (10::z)=0:=by
 unfold Vy;rw[if_neg (by omega),if_pos rfl]
theorem xY(z:List Int):∀(n:Nat)(t:List Int)(u:List Int),t.length≤n→Vy (t++u)=t.length→t≠[]→Vy (t++z)=t.length
 |_,[],_,_,_,h=>absurd rfl h
 |0,_::_,_,h,_,_=>by simp at h
 |n+1,c::r,u,h,h1,_=>by
  rw[List.cons_append]at h1⊢;unfold Vy at h1⊢;split at h1
  ·rename_i hc;rw[if_pos hc];exact h1
  rename_i hc;rw[if_neg hc]
  split at h1
  ·simp at h1
  rename_i hc2;rw[if_neg hc2]
  split at h1
  ·rename_i hc3;rw[if_pos hc3]
   cases r with
   |nil =>
    cases u with
    |nil=>simp at h1
    |cons d u' =>
     simp only[List.nil_append,VX,List.length_nil]at h1;split at h1
     ·omega
     ·split at h1 <;> omega
   |cons d r' =>
    simp only[List.cons_append,VX]at h1⊢;split at h1
    ·omega
    rename_i hd;rw[if_neg hd]
    split at h1
    ·omega
    rename_i h0
    by_cases hr':r'=[]
    ·subst hr';simp at h0 h1;omega
    ·have:=xY z n r' u (by simp at h;omega) (by omega) hr';rw[this,if_neg (by have:=List.length_pos_iff.2 hr';omega)]
  ·rename_i hc3;rw[if_neg hc3]
   split at h1
   ·simp at h1
   rename_i h0
   simp only[VX]at h1⊢;by_cases hr:r=[]
   ·subst hr;simp at h0 h1;omega
   ·have:=xY z n r u (by simpa using h) (by omega) hr;rw[this,if_neg (by have:=List.length_pos_iff.2 hr;omega)]
theorem Gl:∀l,Jj l≤l.length
 |[]=>QH _
 |c::r=>by
  have:=Gl r;simp only[Jj,VX];split
  ·split <;> omega
  ·omega
theorem Yz:∀(l:List Int)(i:Nat),Jj l≤i→i<l.length→blk (l.getD i 0)=true
 |[],i,_,h=>by simp at h
 |c::r,i,h1,h2=>by
  have ih:=Yz r;simp only[Jj]at h1;split at h1
  ·rename_i h0
   split at h1
   ·rename_i hc
    cases i with
    |zero=>simpa using hc
    |succ i=>simpa using ih i (by omega) (by simpa using h2)
   ·cases i with
    |zero=>omega
    |succ i=>simpa using ih i (by omega) (by simpa using h2)
  ·cases i with
   |zero=>omega
   |succ i=>simpa using ih i (by omega) (by simpa using h2)
theorem Uo:∀(l:List Int),0<Jj l→blk (l.getD (Jj l-1) 0)=false
 |[],h=>by simp[Jj]at h
 |c::r,h=>by
  have ih:=Uo r;simp only[Jj]at h⊢;split
  ·rename_i h0
   rw[if_pos h0]at h;split
   ·rename_i hc;rw[if_pos hc]at h;omega
   ·rename_i hc;simpa using hc
  ·rename_i h0
   obtain⟨k,hk⟩:∃k,Jj r=k+1:=⟨Jj r-1,by omega⟩;have:=ih (by omega);rw[hk]at this⊢;simpa using this
theorem tI:∀(l:List Int)(n:Nat),n≤l.length→(0<n→blk (l.getD (n-1) 0)=false)→(∀i,n≤i→i<l.length→blk (l.getD i 0)=true)→Jj l=n:=by
 intro l n hn h1 h2;have _hn:=hn;have hle:=Gl l;rcases Nat.lt_trichotomy (Jj l) n with h|h|h
 ·have:=Yz l (n-1) (by omega) (by omega);rw[h1 (by omega)]at this;cases this
 ·exact h
 ·have:=Uo l (by omega);rw[h2 (Jj l-1) (by omega) (by omega)]at this;cases this
structure Tok where
 kind:Int
 text:List Int
 place:Nat
 first:Bool
deriving DecidableEq
theorem Z9(c:Int)(r:List Int):piece (c::r) =
  if kd c=1 then(1,K8 (c::r))
  else if kd c=2 then(2,PA (c::r))
  else if kd c=3 then(3,Yt (c::r))
  else if kd c=4 then(if(c::r).take 2=[47,47]then(5,X3 (c::r))else(4,Ks (c::r)))
  else(kd c,1):=rfl
theorem zh:∀l,(piece l).2≤l.length
 |[]=>QH _
 |c::r=>by
  have h1:K8 (c::r)≤(c::r).length:=Kh _ _;have h2:PA (c::r)≤(c::r).length:=by unfold PA Aa;have:=Kh YD (c::r);split <;> omega
  have h3:Yt (c::r)≤(c::r).length:=by have:=kP r.length r (QH _);simp only[Yt,VX];split <;> omega
  have h5:X3 (c::r)≤(c::r).length:=by unfold X3;have:=Gl ((c::r).take (Zy (c::r)));rw[List.length_take]at this;omega
  have h4:Ks (c::r)≤(c::r).length:=by
   unfold Ks;split
   ·rename_i h
    cases r with
    |nil=>simp[Vw]at h
    |cons d r'=>simp
   ·split <;> simp
  rw[Z9];split
  ·exact h1
  split
  ·exact h2
  split
  ·exact h3
  split
  ·split
   ·exact h5
   ·exact h4
  ·simp
def YM:Nat→List Int→List (Int×List Int)×List Int
 |0,l=>([],l)
 |f+1,l=>if(piece l).2=0 then([],l)else(((piece l).1,l.take (piece l).2)::(YM f (l.drop (piece l).2)).1,(YM f (l.drop (piece l).2)).2)
def Zk:List Int→List (Int×List Int)→List Int→Prop
 |l,[],z=>l=z∧(piece z).2=0
 |l,(k,t)::ps,z=>∃r,l=t++r∧piece l=(k,t.length)∧t.length≠0∧Zk r ps z
theorem mC:∀(f:Nat)(l:List Int),l.length≤f→Zk l (YM f l).1 (YM f l).2
 |0,l,h=>by
  have:l=[]:=List.eq_nil_of_length_eq_zero (by omega);subst this;exact⟨rfl,rfl⟩
 |f+1,l,h=>by
  unfold YM;split
  ·rename_i h0;exact⟨rfl,h0⟩
  ·rename_i h0
   have hle:=zh l;have hlen:(l.take (piece l).2).length=(piece l).2:=by rw[List.length_take];omega
   exact⟨l.drop (piece l).2,(List.take_append_drop _ _).symm,by rw[hlen],by omega,mC f _ (by rw[List.length_drop];omega)⟩
theorem mS:∀(ps:List (Int×List Int))(f:Nat)(l z:List Int),l.length≤f→Zk l ps z→YM f l=(ps,z)
 |[],0,l,z,_,h=>by obtain⟨rfl,_⟩:=h;rfl
 |[],f+1,l,z,_,h=>by
  obtain⟨rfl,h0⟩:=h;unfold YM;rw[if_pos h0]
 |(k,t)::ps,0,l,z,hf,h=>by
  obtain⟨r,rfl,h1,h2,h3⟩:=h;rw[JF]at hf;omega
 |(k,t)::ps,f+1,l,z,hf,h=>by
  obtain⟨r,rfl,h1,h2,h3⟩:=h;have ih:=mS ps f r z (by rw[JF]at hf;omega) h3;unfold YM;rw[h1,if_neg (by exact h2)];simp only[List.drop_left,List.take_left,ih]
def pieces(l:List Int):List (Int×List Int):=(YM l.length l).1
def left(l:List Int):List Int:=(YM l.length l).2
theorem Eh(l:List Int):Zk l (pieces l) (left l):=mC _ _ (QH _)
theorem Qsn{l z:List Int}{ps:List (Int×List Int)}(h:Zk l ps z):pieces l=ps∧left l=z:=by
 have:=mS ps l.length l z (QH _) h;unfold pieces left;rw[this];exact⟨rfl,rfl⟩
def cat:List (Int×List Int)→List Int
 |[]=>[]
 |(_,t)::ps=>t++cat ps
theorem xZ:∀{ps:List (Int×List Int)}{l z:List Int},Zk l ps z→l=cat ps++z
 |[],_,_,h=>h.1
 |(k,t)::ps,l,z,⟨r,h1,_,_,h3⟩=>by
  rw[h1,xZ h3];simp[cat]
def words:List (List Int):=[[112,97,99,107,97,103,101],[105,109,112,111,114,116],[99,111,110,115,116],[118,97,114],[116,121,112,101],[102,117,110,99],[109,97,112],[115,116,114,117,99,116],
 [105,102],[101,108,115,101],[102,111,114],[114,101,116,117,114,110],[98,114,101,97,107],[99,111,110,116,105,110,117,101]]
def Ai:List Int:=[114,101,116,117,114,110]
def Ag:List Int:=[98,114,101,97,107]
def Ah:List Int:=[99,111,110,116,105,110,117,101]
def isWord(t:List Int):Bool:=decide (t∈words)
def Ax:List (List Int):=[[41],[93],[125],[43,43],[45,45]]
def closes(k:Int)(t:List Int):Bool :=
 if k=2∨k=3 then true
 else if k=1 then !isWord t||decide (t=Ai)||decide (t=Ag)||decide (t=Ah)
 else if k=4 then decide (t∈Ax)
 else false
structure St where
 ZQ:List Tok
 first:Bool
 opn:Bool
 SX:Nat
def Ea(s:St):St:=⟨s.ZQ++[⟨6,[],s.SX,false⟩],s.first,false,s.SX⟩
def keep(s:St)(k:Int)(t:List Int)(at_:Nat):St :=
 let s1:=if s.opn=true∧(k=8∨k=5)then Ea s else s
 if k=8 then⟨s1.ZQ,true,s1.opn,s1.SX⟩
 else if k=7 then s1
 else⟨s1.ZQ++[⟨k,t,at_,s1.first⟩],false,closes k t,at_+t.length⟩
def Ez:St→Nat→List (Int×List Int)→St
 |s,_,[]=>s
 |s,n,(k,t)::ps=>Ez (keep s k t n) (n+t.length) ps
def over:List (Int×List Int)→Bool
 |[]=>true
 |(k,_)::ps=>if k=7 then over ps else decide (k=8∨k=5)
def fin:List (Int×List Int)→Nat→Bool→List Tok
 |[],_,_=>[]
 |(k,t)::ps,n,f =>
  if k=8 then fin ps (n+t.length) true
  else if k=7 then fin ps (n+t.length) f
  else⟨k,t,n,f⟩::((if closes k t&&over ps then[⟨6,[],n+t.length,false⟩]else[])++fin ps (n+t.length) false)
theorem U3(t:List Int)(k:Int)(h:k=7∨k=8∨k=5∨k=6):closes k t=false:=by
 unfold closes;rw[if_neg (by omega),if_neg (by omega),if_neg (by omega)]
theorem nW:∀(ps:List (Int×List Int))(s:St)(n:Nat),
  (keep (Ez s n ps) 8 [] 0).ZQ=s.ZQ++((if s.opn&&over ps then[⟨6,[],s.SX,false⟩]else[])++fin ps n s.first)
 |[],s,n=>by
  cases ho:s.opn <;> simp[Ez,keep,fin,over,Ea,ho]
 |(k,t)::ps,s,n=>by
  simp only[Ez];rw[nW ps];by_cases h8:k=8
  ·subst h8;cases ho:s.opn <;> simp[keep,fin,over,Ea,ho]
  ·by_cases h7:k=7
   ·subst h7;cases ho:s.opn <;> simp[keep,fin,over,ho]
   ·by_cases h5:k=5
    ·subst h5;have hc:=U3 t 5 (by omega);cases ho:s.opn <;> simp[keep,fin,over,Ea,ho,hc]
    ·cases ho:s.opn <;> simp[keep,fin,over,ho,h8,h7,h5]
def st0:St:=⟨[],true,false,0⟩
def ZQ(l:List Int):List Tok:=fin (pieces l) 0 true
theorem Qq0(l:List Int):(keep (Ez st0 0 (pieces l)) 8 [] 0).ZQ=ZQ l:=by
 rw[nW];simp[st0,ZQ]
def U7:Nat→List Int→Nat→St→St×Nat
 |0,_,n,s=>(s,n)
 |f+1,l,n,s=>if(piece l).2=0 then(s,n)else U7 f (l.drop (piece l).2) (n+(piece l).2) (keep s (piece l).1 (l.take (piece l).2) n)
theorem nZ:∀(f:Nat)(l:List Int)(n:Nat)(s:St),U7 f l n s=(Ez s n (YM f l).1,n+(l.length-(YM f l).2.length))
 |0,l,n,s=>by simp[U7,YM,Ez]
 |f+1,l,n,s=>by
  unfold U7 YM;split
  ·simp[Ez]
  ·rename_i h0
   have hle:=zh l;have hlen:(l.take (piece l).2).length=(piece l).2:=by rw[List.length_take];omega
   have hl2:(YM f (l.drop (piece l).2)).2.length≤(l.drop (piece l).2).length:=by
    generalize l.drop (piece l).2=r;clear h0 hle hlen
    induction f generalizing r with
    |zero=>exact QH _
    |succ f ih =>
     unfold YM;split
     ·exact QH _
     ·have:=ih (r.drop (piece r).2);rw[List.length_drop]at this;simp only;omega
   rw[nZ f];simp only[Ez,hlen];rw[List.length_drop]at hl2⊢
   congr 1
   omega
theorem Qsa(l:List Int):U7 l.length l 0 st0=(Ez st0 0 (pieces l),l.length-(left l).length):=by
 rw[nZ];simp[pieces,left]
theorem ak(l:List Int):(left l).length≤l.length:=by
 have:=congrArg List.length (xZ (Eh l));rw[JF]at this;omega
def plain:List (Int×List Int)→Nat→Nat→Bool→List (Tok×Nat)
 |[],_,_,_=>[]
 |(k,t)::ps,n,ln,f =>
  if k=8 then plain ps (n+t.length) (ln+1) true
  else if k=7 then plain ps (n+t.length) ln f
  else(⟨k,t,n,f⟩,ln)::plain ps (n+t.length) ln false
def Xt(ln:Nat):List (Tok×Nat)→Bool
 |[]=>true
 |(t,m)::r=>if t.kind=5∧m=ln then Xt ln r else decide (ln<m)
def SB:List (Tok×Nat)→List Tok
 |[]=>[]
 |(t,ln)::r=>t::((if Xt ln r&&closes t.kind t.text then[⟨6,[],t.place+t.text.length,false⟩]else[])++SB r)
def Ar:List (Int×List Int)→Prop
 |[]=>True
 |(k,_)::ps=>(k=7∧Ar ps)∨k=8
def qo:List (Int×List Int)→Prop
 |[]=>True
 |(k,_)::ps=>(k=5→Ar ps)∧qo ps
theorem Gt:∀(ps:List (Int×List Int))(n ln:Nat)(f:Bool)(x:Tok×Nat),x∈plain ps n ln f→ln≤x.2
 |[],_,_,_,_,h=>by cases h
 |(k,t)::ps,n,ln,f,x,h=>by
  unfold plain at h;split at h
  ·have:=Gt ps _ _ _ x h;omega
  split at h
  ·exact Gt ps _ _ _ x h
  ·rcases List.mem_cons.1 h with h|h
   ·subst h;exact QH _
   ·exact Gt ps _ _ _ x h
theorem mU{ln:Nat}:∀{r:List (Tok×Nat)},(∀x∈r,ln+1≤x.2)→Xt ln r=true
 |[],_=>rfl
 |(t,m)::r,h=>by
  have:=h (t,m) (by simp);simp only at this;unfold Xt;rw[if_neg (by omega)];simp;omega
theorem mW:∀(ps:List (Int×List Int))(n ln:Nat)(f:Bool),Ar ps→Xt ln (plain ps n ln f)=true
 |[],_,_,_,_=>rfl
 |(k,t)::ps,n,ln,f,h=>by
  rcases h with⟨rfl,h⟩|rfl
  ·simp only[plain];exact mW ps _ _ _ h
  ·simp only[plain,if_true];exact mU (fun x hx=>Gt ps _ _ _ x hx)
theorem mV:∀(ps:List (Int×List Int))(n ln:Nat)(f:Bool),qo ps→Xt ln (plain ps n ln f)=over ps
 |[],_,_,_,_=>rfl
 |(k,t)::ps,n,ln,f,h=>by
  by_cases h8:k=8
  ·subst h8;simp only[plain,if_true,over];exact mU (fun x hx=>Gt ps _ _ _ x hx)
  by_cases h7:k=7
  ·subst h7;simp only[plain,over,if_true];exact mV ps _ _ _ h.2
  by_cases h5:k=5
  ·subst h5;have:=mW ps (n+t.length) ln false (h.1 rfl);simp[plain,over,Xt,this]
  ·simp[plain,over,Xt,h8,h7,h5]
theorem Uv:∀(ps:List (Int×List Int))(n ln:Nat)(f:Bool),qo ps→SB (plain ps n ln f)=fin ps n f
 |[],_,_,_,_=>rfl
 |(k,t)::ps,n,ln,f,h=>by
  by_cases h8:k=8
  ·subst h8;simp only[plain,if_true,fin];exact Uv ps _ _ _ h.2
  by_cases h7:k=7
  ·subst h7;simp only[plain,fin];exact Uv ps _ _ _ h.2
  ·simp only[plain,fin,h8,h7,if_false,SB];rw[Uv ps _ _ _ h.2,mV ps _ _ _ h.2,Bool.and_comm]
theorem cn{c:Int}(r:List Int)(h:blk c=true):piece (c::r)=(7,1):=by
 have h7:kd c=7:=by unfold blk at h;simpa using h
 rw[Z9,h7];rfl
theorem tq(r:List Int):piece (10::r)=(8,1):=rfl
theorem tE:∀(m:Nat)(l:List Int)(ps:List (Int×List Int)),(∀i,i<m→blk (l.getD i 0)=true)→m≤l.length→(m<l.length→l.getD m 0=10)→Zk l ps []→Ar ps
 |_,_,[],_,_,_,_=>trivial
 |0,l,(k,t)::ps,_,_,h2,⟨r,h3,h4,h5,h6⟩=>by
  cases l with
  |nil=>have:=congrArg List.length h3;rw[JF]at this;simp at this;omega
  |cons c l' =>
   have:c=10:=by simpa using h2 (by simp)
   subst this;rw[tq]at h4;have:k=8:=by injection h4 with a _;exact a.symm
   exact .inr this
 |m+1,l,(k,t)::ps,h0,h1,h2,⟨r,h3,h4,h5,h6⟩=>by
  cases l with
  |nil=>simp at h1
  |cons c l' =>
   have hb:blk c=true:=by simpa using h0 0 (by omega)
   rw[cn l' hb]at h4;have hk:k=7∧t.length=1:=by injection h4 with a b;exact⟨a.symm,b.symm⟩
   obtain⟨d,rfl⟩:∃d,t=[d]:=by
    match t,hk.2 with
    |[d],_=>exact⟨d,rfl⟩
   simp only[List.cons_append,List.nil_append,List.cons.injEq]at h3;obtain⟨rfl,rfl⟩:=h3;exact .inl ⟨hk.1,tE m l' ps (fun i hi=>by simpa using h0 (i+1) (by omega)) (by simpa using h1) (fun h=>by simpa using h2 (by simpa using h)) h6⟩
theorem getD_drop(l:List Int)(n i:Nat):(l.drop n).getD i 0=l.getD (n+i) 0:=by simp[List.getD,List.getElem?_drop]
theorem getD_take{l:List Int}{n i:Nat}(h:i<n):(l.take n).getD i 0=l.getD i 0:=by simp[List.getD,h]
theorem gF{l:List Int}{n:Nat}(h:piece l=(5,n)):l.take 2=[47,47]∧n=X3 l:=by
 cases l with
 |nil=>simp[piece]at h
 |cons c r =>
  rw[Z9]at h;repeat' split at h
  all_goals first
   |(simp only[Prod.mk.injEq]at h;exact⟨by assumption,h.2.symm⟩)
   |(exfalso;simp only[Prod.mk.injEq]at h;have:=qY c;omega)
theorem Qpn{l:List Int}{n:Nat}{ps:List (Int×List Int)}(h:piece l=(5,n))(ht:Zk (l.drop n) ps []):Ar ps:=by
 obtain⟨_,rfl⟩:=gF h;have hle:Zy l≤l.length:=Kh _ _;have htr:=Gl (l.take (Zy l));rw[List.length_take]at htr;have hr:X3 l=Jj (l.take (Zy l)):=rfl;refine tE (Zy l-X3 l) _ ps (fun i hi=>?_) (by rw[List.length_drop];omega) (fun hlt=>?_) ht
 ·have:=Yz (l.take (Zy l)) (X3 l+i) (by omega) (by rw[List.length_take];omega);rw[getD_take (by omega)]at this;rw[getD_drop];exact this
 ·rw[List.length_drop]at hlt;have:=xW (fun c=>c != 10) l (by unfold Zy at *;omega);rw[getD_drop,show X3 l+(Zy l-X3 l)=Zy l from by omega];unfold Zy;simpa using this
theorem sJ:∀(ps:List (Int×List Int))(l:List Int),Zk l ps []→qo ps
 |[],_,_=>trivial
 |(k,t)::ps,l,⟨r,h1,h2,_,h4⟩=>⟨fun hk=>by
  subst hk;have:l.drop t.length=r:=by rw[h1,List.drop_left]
  exact Qpn h2 (by rw[this];exact h4),sJ ps r h4⟩
theorem Qqa{l:List Int}(h:left l=[]):SB (plain (pieces l) 0 0 true)=ZQ l :=
 Uv _ _ _ _ (sJ _ l (by have:=Eh l;rw[h]at this;exact this))
end Lex
namespace QB
open Tree
structure Tk where
 kind:Int
 x:ByteArray
 place:Nat
 first:Bool
def ZA(x:ByteArray):List Int:=x.toList.map fun b=>(b.toNat:Int)
def QQ(t:Tk)(u:List UInt8):Bool:=t.x.toList==u
def Je(t:Tk):Bool:=t.kind==1 && !Lex.isWord (ZA t.x)
def Q9(t:Tk):Bool:=QQ t [45]||QQ t [33]||QQ t [94]||QQ t [42]||QQ t [38]||QQ t [43]
def V'(t:Tk):Bool:=QQ t [42]||QQ t [91]||QQ t [109,97,112]||QQ t [115,116,114,117,99,116]||Je t
def JM(t:Tk):Bool:=t.kind==2||(t.kind==3||(QQ t [40]||(Je t||Q9 t)))
def e0:ByteArray:=⟨#[]⟩
inductive Rd(α:Type) where
 |ok (a:α) (r:List Tk)
 |bad (p:Nat) (e:Int)
def Rd.bind{α β:Type}(x:Rd α)(f:α→List Tk→Rd β):Rd β :=
 match x with
 | .ok a r=>f a r
 | .bad p e=>.bad p e
theorem Rd.bind_ok{α β:Type}(a:α)(r:List Tk)(f:α→List Tk→Rd β):(Rd.ok a r).bind f=f a r:=rfl
theorem Rd.QG{α β:Type}(p:Nat)(e:Int)(f:α→List Tk→Rd β):(Rd.bad p e).bind f=.bad p e:=rfl
def hd(z:Nat):List Tk→Tk
 |[]=>⟨0,e0,z,false⟩
 |t::_=>t
def J'(z:Nat)(f:Bool)(d:Nat)(l:List Tk):Rd Tk :=
 if f=true then(if 256<d then .bad (hd z l).place 6 else .ok (hd z l) l.tail)else .bad (hd z l).place 5
def X5(z:Nat)(f:Bool)(l:List Tk):Rd Unit:=if f=true then .ok () l else .bad (hd z l).place 5
def want(z:Nat)(u:List UInt8)(l:List Tk):Rd Unit:=if QQ (hd z l) u=true then .ok () l.tail else .bad (hd z l).place 5
def name(z:Nat)(l:List Tk):Rd ByteArray:=if Je (hd z l)=true then .ok (hd z l).x l.tail else .bad (hd z l).place 5
def over(z:Nat)(l:List Tk):Rd ByteArray :=
 if QQ (hd z l) [125]=true then .ok e0 l
 else if(hd z l).kind=6 then(if(hd z l.tail).kind=5∧(hd z l.tail).first=false then .ok (hd z l.tail).x l.tail.tail else .ok e0 l.tail)
 else .bad (hd z l).place 5
def Qo(n:Nd)(r:F):F:=.cons n.k n.x n.y n.c r
def one(n:Nd):F:=Qo n .nil
def Jg:Nd:=⟨33,e0,e0,.nil⟩
def node(k:Int)(x:ByteArray)(c:F):Nd:=⟨k,x,e0,c⟩
def item(z:Nat)(rd:Nat→List Tk→Rd Nd)(d:Nat)(l:List Tk):Rd Nd :=
 if(hd z l).kind=5 then(J' z true d l).bind fun t l=>.ok (node 8 t.x .nil) l
 else(rd d l).bind fun n l=>(over z l).bind fun y l=>.ok ⟨n.k,n.x,y,n.c⟩ l
def items(z:Nat)(it:List Tk→Rd Nd):Nat→List Tk→Rd F
 |0,_=>.bad 0 0
 |f+1,l=>if QQ (hd z l) [125]=true then .ok .nil l else(it l).bind fun n l=>(items z it f l).bind fun c l=>.ok (Qo n c) l
def Jy(z:Nat)(rd:Nat→List Tk→Rd Nd)(d:Nat)(l:List Tk):Rd F :=
 (J' z (QQ (hd z l) [123]) d l).bind fun _ l=>(items z (item z rd (d+1)) (l.length+1) l).bind fun c l=>(want z [125] l).bind fun _ l=>.ok c l
def Uf(z:Nat)(l:List Tk):Rd Unit:=if QQ (hd z l) [41]=true then .ok () l else want z [44] l
def args(z:Nat)(rd:List Tk→Rd Nd):Nat→List Tk→Rd F
 |0,_=>.bad 0 0
 |f+1,l=>if QQ (hd z l) [41]=true then .ok .nil l else(rd l).bind fun n l=>(Uf z l).bind fun _ l=>(args z rd f l).bind fun c l=>.ok (Qo n c) l
def list(z:Nat)(rd:Nat→List Tk→Rd Nd)(d:Nat)(l:List Tk):Rd F :=
 (want z [40] l).bind fun _ l=>(args z (rd (d+1)) (l.length+1) l).bind fun c l=>(want z [41] l).bind fun _ l=>.ok c l
def Vq(z:Nat)(k:Int)(ty:Nat→List Tk→Rd Nd)(d:Nat)(l:List Tk):Rd Nd :=
 (J' z (Je (hd z l)) d l).bind fun t l=>(ty d l).bind fun n l=>.ok (node k t.x (one n)) l
def Kf(z:Nat)(ty:Nat→List Tk→Rd Nd)(d:Nat)(t:Tk)(l:List Tk):Rd Nd :=
 if QQ t [42]=true then(ty (d+1) l).bind fun n l=>.ok (node 10 e0 (one n)) l
 else if QQ t [91]=true then(want z [93] l).bind fun _ l=>(ty (d+1) l).bind fun n l=>.ok (node 11 e0 (one n)) l
 else if QQ t [109,97,112]=true then(want z [91] l).bind fun _ l=>(ty (d+1) l).bind fun k l=>(want z [93] l).bind fun _ l=>(ty (d+1) l).bind fun n l=>.ok (node 12 e0 (Qo k (one n))) l
 else if QQ t [115,116,114,117,99,116]=true then(Jy z (Vq z 14 ty) d l).bind fun c l=>.ok (node 13 e0 c) l
 else .ok (node 9 t.x .nil) l
def NK(z:Nat):Nat→Nat→List Tk→Rd Nd
 |0,_,_=>.bad 0 0
 |f+1,d,l=>(J' z (V' (hd z l)) d l).bind fun t l=>Kf z (NK z f) d t l
def GG(z:Nat)(d:Nat)(l:List Tk):Rd Nd:=NK z (l.length+1) d l
def first(z:Nat)(ex:Nat→Nat→List Tk→Rd Nd)(d:Nat)(t:Tk)(l:List Tk):Rd Nd :=
 if t.kind=2 then .ok (node 26 t.x .nil) l
 else if t.kind=3 then .ok (node 27 t.x .nil) l
 else if QQ t [40]=true then(ex 1 (d+1) l).bind fun n l=>(want z [41] l).bind fun _ l=>.ok n l
 else .ok (node 9 t.x .nil) l
def behind(z:Nat)(ex:Nat→Nat→List Tk→Rd Nd)(d:Nat):Nat→Nd→List Tk→Rd Nd
 |0,_,_=>.bad 0 0
 |f+1,n,l =>
  if QQ (hd z l) [40]=true then(list z (ex 1) d l).bind fun c l=>behind z ex d f (node 30 e0 (Qo n c)) l
  else if QQ (hd z l) [91]=true then(ex 1 (d+1) l.tail).bind fun m l=>(want z [93] l).bind fun _ l=>behind z ex d f (node 31 e0 (Qo n (one m))) l
  else if QQ (hd z l) [46]=true then(name z l.tail).bind fun s l=>behind z ex d f (node 32 s (one n)) l
  else .ok n l
def Ru(z:Nat)(ex:Nat→Nat→List Tk→Rd Nd):Nat→Nat→List Tk→Rd Nd
 |0,_,_=>.bad 0 0
 |f+1,d,l=>(J' z (JM (hd z l)) d l).bind fun t l =>
  if Q9 t=true then(Ru z ex f (d+if Q9 (hd z l)=true then 2 else 1) l).bind fun n l=>.ok (node 28 t.x (one n)) l
  else(first z ex d t l).bind fun n l=>behind z ex d (l.length+1) n l
def Xw(z:Nat)(ex:Nat→Nat→List Tk→Rd Nd)(least d:Nat):Nat→Nd→List Tk→Rd Nd
 |0,_,_=>.bad 0 0
 |f+1,n,l =>
  if least≤Ql (hd z l).x then(ex (Ql (hd z l).x+1) d l.tail).bind fun m l'=>Xw z ex least d f (node 29 (hd z l).x (Qo n (one m))) l'
  else .ok n l
def J6(z:Nat):Nat→Nat→Nat→List Tk→Rd Nd
 |0,_,_,_=>.bad 0 0
 |f+1,least,d,l=>(Ru z (J6 z f) (l.length+1) d l).bind fun n l=>Xw z (J6 z f) least d (l.length+1) n l
def XH(z:Nat)(d:Nat)(l:List Tk):Rd Nd:=J6 z (l.length+1) 1 d l
def Rf(z:Nat)(d:Nat)(l:List Tk):Rd Nd :=
 (J' z (QQ (hd z l) [118,97,114]) d l).bind fun _ l=>(name z l).bind fun s l =>
 (if QQ (hd z l) [61]=true then .ok Jg l else GG z d l).bind fun t l =>
 (if QQ (hd z l) [61]=true then XH z d l.tail else .ok Jg l).bind fun v l=>.ok (node 5 s (Qo t (one v))) l
def Zu(z:Nat)(st:Nat→List Tk→Rd Nd)(d:Nat)(l:List Tk):Rd Nd:=(Jy z st d l).bind fun c l=>.ok (node 17 e0 c) l
def Ki(z:Nat)(st:Nat→List Tk→Rd Nd):Nat→Nat→List Tk→Rd Nd
 |0,_,_=>.bad 0 0
 |f+1,d,l=>(J' z (QQ (hd z l) [105,102]) d l).bind fun _ l=>(XH z d l).bind fun c l=>(Zu z st d l).bind fun b l =>
  (if QQ (hd z l) [101,108,115,101]=true then(if QQ (hd z l.tail) [105,102]=true then Ki z st f (d+1) l.tail else Zu z st d l.tail)else .ok Jg l).bind fun o l =>
  .ok (node 18 e0 (Qo c (Qo b (one o)))) l
def Tb(z:Nat)(st:Nat→List Tk→Rd Nd)(d:Nat)(l:List Tk):Rd Nd :=
 (J' z (QQ (hd z l) [102,111,114]) d l).bind fun _ l=>(if QQ (hd z l) [123]=true then .ok Jg l else XH z d l).bind fun c l =>
 (Zu z st d l).bind fun b l=>.ok (node 19 e0 (Qo c (one b))) l
def X8(z:Nat)(d:Nat):Nat→List Tk→Rd F
 |0,_=>.bad 0 0
 |f+1,l=>if QQ (hd z l) [44]=true then(XH z d l.tail).bind fun n l=>(X8 z d f l).bind fun c l=>.ok (Qo n c) l else .ok .nil l
def RL(z:Nat)(d:Nat)(l:List Tk):Rd Nd :=
 (J' z (QQ (hd z l) [114,101,116,117,114,110]) d l).bind fun _ l =>
 if(hd z l).kind=6∨QQ (hd z l) [125]=true then .ok (node 20 e0 .nil) l
 else(XH z d l).bind fun n l=>(X8 z d (l.length+1) l).bind fun c l=>.ok (node 20 e0 (Qo n c)) l
def G2(z:Nat)(k:Int)(d:Nat)(l:List Tk):Rd Nd:=(J' z true d l).bind fun _ l=>.ok (node k e0 .nil) l
def LB(n:Nd):Bool:=n.k==9||(n.k==31||(n.k==32||(n.k==28&&n.x.toList==[42])))
def Xg(t:Tk):Bool:=QQ t [61]||(QQ t [43,61]||(QQ t [45,61]||(QQ t [42,61]||(QQ t [47,61]||QQ t [37,61]))))
def Yf(t:Tk):Bool:=QQ t [43,43]||QQ t [45,45]
def Zl(z:Nat)(d:Nat)(l:List Tk):Rd Nd :=
 (XH z d l).bind fun n l =>
 if QQ (hd z l) [58,61]=true then(X5 z (n.k==9) l).bind fun _ l=>(XH z d l.tail).bind fun m l'=>.ok (node 21 (hd z l).x (Qo n (one m))) l'
 else if Xg (hd z l)=true then(X5 z (LB n) l).bind fun _ l=>(XH z d l.tail).bind fun m l'=>.ok (node 21 (hd z l).x (Qo n (one m))) l'
 else if Yf (hd z l)=true then(X5 z (LB n) l).bind fun _ l=>.ok (node 22 (hd z l).x (one n)) l.tail
 else(X5 z (n.k==30) l).bind fun _ l=>.ok (node 23 e0 (one n)) l
def J3(z:Nat)(st:Nat→List Tk→Rd Nd)(d:Nat)(l:List Tk):Rd Nd :=
 if QQ (hd z l) [118,97,114]=true then Rf z d l
 else if QQ (hd z l) [123]=true then Zu z st d l
 else if QQ (hd z l) [105,102]=true then Ki z st (l.length+1) d l
 else if QQ (hd z l) [102,111,114]=true then Tb z st d l
 else if QQ (hd z l) [114,101,116,117,114,110]=true then RL z d l
 else if QQ (hd z l) [98,114,101,97,107]=true then G2 z 24 d l
 else if QQ (hd z l) [99,111,110,116,105,110,117,101]=true then G2 z 25 d l
 else Zl z d l
def SL(z:Nat):Nat→Nat→List Tk→Rd Nd
 |0,_,_=>.bad 0 0
 |f+1,d,l=>J3 z (SL z f) d l
def Ek(z:Nat)(d:Nat)(l:List Tk):Rd Nd:=SL z (l.length+1) d l
def Ke(z:Nat)(d:Nat)(l:List Tk):Rd Nd :=
 (J' z (QQ (hd z l) [102,117,110,99]) d l).bind fun _ l =>
 (if QQ (hd z l) [40]=true then(Vq z 16 (GG z) d l.tail).bind fun n l=>(want z [41] l).bind fun _ l=>.ok n l else .ok Jg l).bind fun r l =>
 (name z l).bind fun s l=>(list z (Vq z 16 (GG z)) d l).bind fun ps l =>
 (if QQ (hd z l) [123]=true then .ok Jg l else GG z d l).bind fun t l =>
 (Zu z (Ek z) d l).bind fun b l=>.ok (node 7 s (Qo r (Qo (node 15 e0 ps) (Qo t (one b))))) l
def Jn(z:Nat)(d:Nat)(l:List Tk):Rd Nd :=
 if QQ (hd z l) [112,97,99,107,97,103,101]=true then(name z l.tail).bind fun s l=>.ok (node 2 s .nil) l
 else if QQ (hd z l) [105,109,112,111,114,116]=true then(X5 z ((hd z l.tail).kind==3) l.tail).bind fun _ l=>.ok (node 3 (hd z l).x .nil) l.tail
 else if QQ (hd z l) [99,111,110,115,116]=true then(name z l.tail).bind fun s l=>(want z [61] l).bind fun _ l=>(XH z d l).bind fun n l=>.ok (node 4 s (one n)) l
 else if QQ (hd z l) [116,121,112,101]=true then(name z l.tail).bind fun s l=>(GG z d l).bind fun n l=>.ok (node 6 s (one n)) l
 else if QQ (hd z l) [118,97,114]=true then Rf z d l
 else Ke z d l
def rows(z:Nat)(ws:List (List UInt8)):Nat→List Tk→Rd F
 |0,_=>.bad 0 0
 |f+1,l=>if(hd z l).kind=5∨(ws.any fun u=>QQ (hd z l) u)=true then(item z (Jn z) 0 l).bind fun n l=>(rows z ws f l).bind fun c l=>.ok (Qo n c) l else .ok .nil l
def Vi:F→F→F
 | .nil,g=>g
 | .cons k x y c r,g=>.cons k x y c (Vi r g)
def Mv:List (List UInt8):=[[105,109,112,111,114,116]]
def U8:List (List UInt8):=[[99,111,110,115,116],[118,97,114],[116,121,112,101],[102,117,110,99]]
def G5(z:Nat)(l:List Tk):Rd F :=
 (rows z [] (l.length+1) l).bind fun c1 l=>(X5 z (QQ (hd z l) [112,97,99,107,97,103,101]) l).bind fun _ l=>(item z (Jn z) 0 l).bind fun p l =>
 (rows z Mv (l.length+1) l).bind fun c2 l=>(rows z U8 (l.length+1) l).bind fun c3 l=>(X5 z (decide (l.length=0)) l).bind fun _ l=>.ok (Vi c1 (Qo p (Vi c2 c3))) l
end QB
namespace ZR
def RT{α:Type}(f:α→List Value)(sz:Nat)(w:World)(B:Nat)(A:Option Addr)(xs:List α):Prop :=
 xs=[]∨∃b,A=some ⟨b,0,none⟩∧b<B∧∀i x,xs[i]?=some x→∀j u,(f x)[j]?=some u→w.cell? ⟨b,i*sz+j,none⟩=some u
section
variable {α:Type}{f:α→List Value}{sz:Nat}{w w':World}{B B':Nat}{A:Option Addr}{xs:List α}
theorem RT.below(h:RT f sz w B A xs){B0:Nat}(hb:Below B0 w w')(hB:B≤B0):RT f sz w' B A xs:=by
 rcases h with h|⟨b,e,hl,hc⟩
 ·exact .inl h
 ·exact .inr ⟨b,e,hl,fun i x hx j u hu=>(hb.cell (by show b<B0;omega)).trans (hc i x hx j u hu)⟩
theorem RT.more(h:RT f sz w B A xs)(hB:B≤B'):RT f sz w B' A xs:=by
 rcases h with h|⟨b,e,hl,hc⟩
 ·exact .inl h
 ·exact .inr ⟨b,e,by omega,hc⟩
theorem RT.at_(h:RT f sz w B A xs)(hn:0<xs.length):∃b,A=some ⟨b,0,none⟩∧b<B∧∀i x,xs[i]?=some x→∀j u,(f x)[j]?=some u→w.cell? ⟨b,i*sz+j,none⟩=some u:=by
 rcases h with h|h
 ·subst h;simp at hn
 ·exact h
end
theorem qX{α:Type}{f:α→List Value}{sz:Nat}(hf:∀x,(f x).length=sz):∀xs:List α,(xs.flatMap f).length=xs.length*sz
 |[]=>by simp
 |x::xs=>by
  rw[List.flatMap_cons,JF,hf,qX hf xs,VX,Nat.add_mul];omega
theorem qI{α:Type}{f:α→List Value}{sz:Nat}(hf:∀x,(f x).length=sz):∀(xs:List α)(i:Nat)(x:α),xs[i]?=some x→∀(j:Nat)(u:Value),(f x)[j]?=some u→(xs.flatMap f)[i*sz+j]?=some u
 |[],i,x,h=>by simp at h
 |y::ys,0,x,h=>fun j u hu=>by
  simp only[List.getElem?_cons_zero,Option.some.injEq]at h;subst h;have hj:j<(f y).length:=by
   rcases Nat.lt_or_ge j (f y).length with h' |h'
   ·exact h'
   ·rw[List.getElem?_eq_none h']at hu;cases hu
  rw[List.flatMap_cons,Nat.zero_mul,JN,List.getElem?_append_left hj];exact hu
 |y::ys,i+1,x,h=>fun j u hu=>by
  have ih:=qI hf ys i x (by simpa using h) j u hu;have hl:=hf y;rw[List.flatMap_cons,List.getElem?_append_right (by rw[hl,Nat.add_mul];omega),hl];rw[show(i+1)*sz+j-sz=i*sz+j from by rw[Nat.add_mul];omega];exact ih
theorem kC{α:Type}{f:α→List Value}{sz:Nat}(hf:∀x,(f x).length=sz){w:World}{base n c:Nat}{E:TypeId}{A:Option Addr}{xs:List α}(h:w.ownsRow base E sz (ς A n c) n (xs.flatMap f))(hn:xs.length=n) :
  RT f sz w w.heap.size A xs:=by
 rcases h.2 with⟨_,h0⟩|⟨g,cap,cur,hv,hg0,hg,h1,h2,h3,h4⟩
 ·exact .inl (List.eq_nil_of_length_eq_zero (by omega))
 ·injection hv with hA _ _;refine .inr ⟨g,hA,lt_of_block hg,fun i x hx j u hu=>?_⟩;have e:=qI hf xs i x hx j u hu;rw[←h4,List.getElem?_take]at e;split at e
  ·simpa[World.cell?,hg]using e
  ·cases e
section
variable {P:Program}{T E:TypeId}{i0:TypeInfo}{z:Value}{sz by_:Nat}
theorem zD(w:World){ops:Array Oper}{rest:List Oper}{o:Oper}{a:Act}{Q:Exit→Act→World→Prop}(hgd:o.guard=none)(s x:Operand)
  (ho:o.op=.call { callee:=.builtin .append,args:=#[s,x],argTypes:=#[T,T] }) (hT:P.underlying T=some (.slice E)) (hi0:P.info? E=some i0) (hz0:i0.zero=some z) (hz1:i0.size=sz) (hz2:i0.bytes=by_) (fu:z.cells.size=sz) (hsz:0<sz)
  (base:Nat) (v:Value) (n:Nat) (vs cs:List Value) (hs:a.eval s=v) (hown:w.ownsRow base E sz v n vs) (hcs:cs.length=sz) (hu:∀u∈cs,u.oneCell'=true) (g:Nat) (hg:g=w.heap.size) (hx:a.eval x=ς (some ⟨g,0,none⟩) 1 1)
  (h63:n≤10000000) (hb:by_≤100) (hbase:base≤w.heap.size)
  (h:∀v' w',w'.ownsRow base E sz v' (n+1) (vs++cs)→(w.alloc (θ cs.toArray E)).grownBy w' v.ownBlock→(∀B,(∀b,v.ownBlock=some b→B≤b)→B≤w.heap.size→Below B w w')→
   (v'.ownBlock=v.ownBlock∨v'.ownBlock=some (w.heap.size+1))→wpList P ops Q rest (a.put o.dst v') w') :
  wpList P ops Q (o::rest) a (w.alloc (θ cs.toArray E)):=by
 subst hg;have hmul:(n+1)*by_≤10000001*100:=Nat.mul_le_mul (by omega) hb;refine wpList_append_own_at (P:=P) _ hgd s x T ho base E i0 z sz by_ hT hi0 hz0 hz1 hz2 fu hsz v n vs hs (hown.alloc _) ⟨w.heap.size,0,none⟩ 1 1 cs hx (by omega) (fun j u hj=>?_) hu (by unfold maxLen;omega) (by omega) (by simp;omega) fun v' w' h1 h2 _ h4=>?_
 ·have e2:(⟨w.heap.size,0,none⟩:Addr).add j=⟨w.heap.size,j,none⟩:=by unfold Addr.add;split <;> simp_all
  rw[e2,World.cell?_alloc_at _ _ _ _ rfl];simpa using hj
 ·exact h v' w' h1 h2 (fun B hv hB=>((Below.refl B w).alloc hB _).grown h2 (by simp;omega) hv) (by simpa using h4)
end
end ZR
namespace Mem
def Um(l:List Oper)(s i:Nat):Bool:=((l[s]?).map fun o=>o.after.any fun e=>Region.binds .any e&&e.on==i).getD false
def Xq(d:Nat→Bool)(i:Nat):Nat→Bool:=fun j=>if j=i then true else d j
def cW(P:Program)(l:List Oper)(Q:Exit→Act→World→Prop)(ws:List Nat)(G:(Nat→Bool)→(Nat→Value)→World→Prop){T:World→World→Prop}(Φ:List (Cd T))(x:Nat→Value)(a:Act)(W:World)(i:Nat)(o:Oper):Prop :=
 ∀d:Nat→Bool,d i=false→(∀j,Um l i j=true→d j=true)→(∀k j,d k=true→Um l k j=true→d j=true)→(∀j,d j=true→(YE Φ j).p (x j) W)→G d x W→
 ∀K:Act→World→Prop,Shut (∀v W',(if ws.contains i=true then T W W'∧G (Xq d i) (Vf x i v) W' else RowKit.Below W.heap.size W W')→(YE Φ i).p v W'→K (a.put o.dst v) W')→Xa P l Q o K a W
def E6(P:Program)(l:List Oper)(Q:Exit→Act→World→Prop)(ws:List Nat)(G:(Nat→Bool)→(Nat→Value)→World→Prop){T:World→World→Prop}(Φ:List (Cd T))(x:Nat→Value)(a:Act)(W:World):Nat→List Oper→Prop
 |_,[]=>True
 |i,o::os=>cW P l Q ws G Φ x a W i o∧E6 P l Q ws G Φ x a W (i+1) os
variable {P:Program}{Q:Exit→Act→World→Prop}
theorem E6.get{l:List Oper}{ws:List Nat}{G:(Nat→Bool)→(Nat→Value)→World→Prop}{T:World→World→Prop}{Φ:List (Cd T)}{x:Nat→Value}{a:Act}{W:World}:∀(os:List Oper)(k i:Nat)(o:Oper),E6 P l Q ws G Φ x a W k os→os[i]?=some o→cW P l Q ws G Φ x a W (k+i) o
 |[],_,_,_,_,h=>by simp at h
 |p::os,k,0,o,hs,h=>by
  simp only[List.getElem?_cons_zero,Option.some.injEq]at h;subst h;exact hs.1
 |p::os,k,i+1,o,hs,h=>by
  have:=E6.get os (k+1) i o hs.2 (by simpa using h);rwa[show k+1+i=k+(i+1)by omega]at this
def J4(n:Nat)(listed:Array Bool):Nat→Bool:=fun j=>decide (j<n)&&listed.getD j true
theorem Q1b{l:List Oper}{ws:List Nat}{G:(Nat→Bool)→(Nat→Value)→World→Prop}{T:World→World→Prop}{Φ:List (Cd T)}{a0:Act}{w1:World}(hn:(Yw l).Nodup)(he:Jm l=true)(htr:∀W1 W2 W3,T W1 W2→T W2 W3→T W1 W3)
  (OH:∀W W',RowKit.Below W.heap.size W W'→T W W')
  (hG:∀d d' x x' W W',(∀j,ws.contains j=true→d' j=d j∧(d j=true→x' j=x j))→RowKit.Below W.heap.size W W'→G d x W→G d' x' W')
  (hsteps:∀x W,T w1 W→∀a,a=(⟨Q6 x 0 l a0.tmps,a0.defers⟩:Act)→E6 P l Q ws G Φ x a W 0 l)
  (hdone:∀d x W,T w1 W→(∀i,i<l.length→d i=true)→(∀i,i<l.length→(YE Φ i).p (x i) W)→G d x W→∀a,a=(⟨Q6 x 0 l a0.tmps,a0.defers⟩:Act)→Q .normal a W) :
  ∀(fuel:Nat)(listed:Array Bool)(x:Nat→Value)(a:Act)(W:World),PF listed l.length=fuel→a=⟨Q6 x 0 l a0.tmps,a0.defers⟩→T w1 W→(∀i,i<l.length→listed.getD i true=true→(YE Φ i).p (x i) W)→
   (∀k j,J4 l.length listed k=true→Um l k j=true→J4 l.length listed j=true)→G (J4 l.length listed) x W→
   wpAny P .any l.toArray Q fuel listed a W:=by
 have all:∀listed:Array Bool,Region.ready .any l.toArray listed=[]→∀i,i<l.length→listed.getD i true=true:=by
  intro listed hr i
  induction i using Nat.strongRecOn with
  |_ i ih =>
   intro hi;by_cases hl:listed.getD i true=true
   ·exact hl
   ·exfalso
    have hm:i∈Region.ready .any l.toArray listed:=mem_ready.2 ⟨by simpa using hl,l[i],by simp[hi],fun e hm hb=>by
     have h1:=List.all_eq_true.1 he i (List.mem_range.2 hi);simp only[List.getElem?_eq_getElem hi]at h1;have h2:=Array.all_eq_true_iff_forall_mem.1 h1 e hm;simp only[hb,Bool.not_true,Bool.false_or,decide_eq_true_eq]at h2;have h3:=ih e.on h2 (by omega);rcases Nat.lt_or_ge e.on listed.size with h' |h'
     ·simpa[h']using h3
     ·exfalso;have h4:listed.getD i true=true:=by simp[Array.getElem?_eq_none (show listed.size≤i by omega)]
      exact hl h4⟩
    rw[hr]at hm;cases hm
 intro fuel
 induction fuel with
 |zero =>
  intro listed x a W hf ha hT hx hcl hg;have hall:=Ee hf;refine⟨?_,hdone _ x W hT (fun i hi=>by simp only[J4,hi,decide_true,Bool.true_and];exact hall i hi) (fun i hi=>hx i hi (hall i hi)) hg a ha⟩;cases hr:Region.ready .any l.toArray listed with
  |nil=>rfl
  |cons i rs =>
   exfalso;obtain⟨h0,o,ho,_⟩:=mem_ready.1 (show i∈Region.ready .any l.toArray listed by rw[hr];exact List.mem_cons_self ..);have hi:i<l.length:=by have:=(Array.getElem?_eq_some_iff.1 ho).1;simpa using this
   rw[hall i hi]at h0;cases h0
 |succ fuel ih =>
  intro listed x a W hf ha hT hx hcl hg;refine⟨fun hr=>hdone _ x W hT (fun i hi=>by simp only[J4,hi,decide_true,Bool.true_and];exact all listed hr i hi) (fun i hi=>hx i hi (all listed hr i hi)) hg a ha,fun i hi=>?_⟩;obtain⟨h0,o,ho,PW⟩:=mem_ready.1 hi;have ho':l[i]?=some o:=by simpa using ho
  have hil:i<l.length:=(List.getElem?_eq_some_iff.1 ho').1;have hdi:J4 l.length listed i=false:=by simp only[J4,hil,decide_true,Bool.true_and];exact h0
  have hwd:∀j,Um l i j=true→J4 l.length listed j=true:=fun j hj=>by
   unfold Um at hj;simp only[ho',Option.map_some,Option.getD_some]at hj;rw[←Array.any_toList,List.any_eq_true]at hj;obtain⟨e,hm0,hb⟩:=hj;have hm:e∈o.after:=Array.mem_toList_iff.1 hm0;simp only[Bool.and_eq_true,beq_iff_eq]at hb;have h1:=PW e hm hb.1;rw[hb.2]at h1;have hjl:j<listed.size:=by
    rcases Nat.lt_or_ge j listed.size with h' |h'
    ·exact h'
    ·simp[Array.getElem?_eq_none h']at h1
   have h2:=List.all_eq_true.1 he i (List.mem_range.2 hil);simp only[ho']at h2;have h3:=Array.all_eq_true_iff_forall_mem.1 h2 e hm;simp only[hb.1,Bool.not_true,Bool.false_or,decide_eq_true_eq]at h3;have hj':j<l.length:=by omega
   simp only[J4,hj',decide_true,Bool.true_and];simpa[hjl]using h1
  have vI:∀j,J4 l.length (listed.setIfInBounds i true) j=Xq (J4 l.length listed) i j:=fun j=>by
   unfold J4 Xq;by_cases YI:j=i
   ·subst YI;have hs:j<listed.size:=by
     rcases Nat.lt_or_ge j listed.size with h' |h'
     ·exact h'
     ·simp[Array.getElem?_eq_none h']at h0
    simp[hil,hs]
   ·rw[if_neg YI,getD_set_ne true (Ne.symm YI)]
  have Oh:∀v,a.put o.dst v=⟨Q6 (Vf x i v) 0 l a0.tmps,a0.defers⟩:=fun v=>by
   rw[ha];cases hd:o.dst with
   |none =>
    simp only[Act.put]
    congr 1
    have key:∀(os:List Oper)(k m:Nat)(t:Array Value),os[m]?=some o→Q6 (Vf x (k+m) v) k os t=Q6 x k os t:=by
     intro os
     induction os with
     |nil=>intro k m t h;rfl
     |cons p os Di =>
      intro k m t h;cases m with
      |zero=>simp only[List.getElem?_cons_zero,Option.some.injEq]at h;subst h;simp only[Q6,hd];exact Ku os (k+1) _ fun j hj=>by simp only[Vf];rw[if_neg (by omega)]
      |succ m =>
       simp only[Q6];have e1:Vf x (k+(m+1)) v k=x k:=by simp only[Vf];rw[if_neg (by omega)]
       rw[e1,show k+(m+1)=k+1+m by omega];exact Di (k+1) m _ (by simpa using h)
    have:=key l 0 i a0.tmps ho';rw[JN]at this;exact this.symm
   |some d =>
    simp only[Act.put]
    congr 1
    have:=Ub (x:=x) (v:=v) l 0 i o a0.tmps hn ho' hd;rw[JN]at this;exact this.symm
  have hst:=E6.get l 0 i o (hsteps x W hT a ha) ho' (J4 l.length listed) (by rw[JN];exact hdi) (by rw[JN];exact hwd) hcl
   (fun j hj=>by
    simp only[J4,Bool.and_eq_true,decide_eq_true_eq]at hj;exact hx j hj.1 hj.2) hg
   (fun a' W'=>wpAny P .any l.toArray Q fuel (listed.setIfInBounds i true) a' W')
   (by
    intro v W' Sv hv;rw[JN]at hv Sv;have OG:T W W':=by
     split at Sv
     ·exact Sv.1
     ·exact OH _ _ Sv
    have Oj:J4 l.length (listed.setIfInBounds i true)=Xq (J4 l.length listed) i:=funext vI;refine ih (listed.setIfInBounds i true) (Vf x i v) _ W' (by have:=AV h0 hil;omega) (Oh v) (htr _ _ _ hT OG) (fun j hj hl=>?_) (fun k j hk hw=>?_) ?_
    ·by_cases YI:j=i
     ·subst YI;simpa[Vf]using hv
     ·have e1:Vf x i v j=x j:=by simp only[Vf];rw[if_neg YI]
      rw[e1];rw[getD_set_ne true (Ne.symm YI)]at hl;exact(YE Φ j).mono _ _ _ OG (hx j hj hl)
    ·rw[Oj]at hk⊢;unfold Xq at hk⊢;by_cases YI:j=i
     ·rw[if_pos YI]
     ·rw[if_neg YI];by_cases uC:k=i
      ·subst uC;exact hwd j hw
      ·rw[if_neg uC]at hk;exact hcl k j hk hw
    ·rw[Oj];split at Sv
     ·exact Sv.2
     ·rename_i hns
      refine hG _ _ _ _ _ _ (fun j hj=>?_) Sv hg;have YI:j≠i:=fun e=>hns (e ▸ hj)
      exact⟨by unfold Xq;rw[if_neg YI],fun _=>by simp only[Vf];rw[if_neg YI]⟩)
  unfold Xa at hst;unfold wpOp;simp only[ho];split
  ·rename_i hw
   rw[if_pos hw]at hst;exact .inl hst
  ·rename_i hw
   rw[if_neg hw]at hst;exact hst
theorem Qpw{id:Nat}{l:List Oper}{a0:Act}{w:World}(ws:List Nat)(G:(Nat→Bool)→(Nat→Value)→World→Prop)(T:World→World→Prop)(Φ:List (Cd T))(hm:P.follows .mixedOrders=true)(hn:(Yw l).Nodup)(he:Jm l=true)
  (hrf:T w.drew w.drew) (htr:∀W1 W2 W3,T W1 W2→T W2 W3→T W1 W3)
  (OH:∀W W',RowKit.Below W.heap.size W W'→T W W')
  (hG:∀d d' x x' W W',(∀j,ws.contains j=true→d' j=d j∧(d j=true→x' j=x j))→RowKit.Below W.heap.size W W'→G d x W→G d' x' W')
  (OJ:∀x,G (fun _=>false) x w.drew)
  (hsteps:∀x W,T w.drew W→∀a,a=(⟨Q6 x 0 l a0.tmps,a0.defers⟩:Act)→E6 P l Q ws G Φ x a W 0 l)
  (hdone:∀d x W,T w.drew W→(∀i,i<l.length→d i=true)→(∀i,i<l.length→(YE Φ i).p (x i) W)→G d x W→∀a,a=(⟨Q6 x 0 l a0.tmps,a0.defers⟩:Act)→Q .normal a W) :
  (Code.region id l.toArray true).wp P Q a0 w:=by
 have uN:J4 l.length (Array.replicate l.toArray.size false)=fun _=>false:=by
  funext j
  unfold J4;by_cases hj:j<l.length
  ·simp[hj]
  ·simp[hj]
 refine wp_region_any hm (Q1b (a0:=a0) (w1:=w.drew) (Φ:=Φ) hn he htr OH hG hsteps hdone l.toArray.size (Array.replicate l.toArray.size false) (NH l a0.tmps) a0 w.drew ?_ ?_ hrf ?_ ?_ ?_)
 ·simpa using Yy l.length l.length (QH _)
 ·rw[Yn]
 ·intro i hi h;exfalso;simp[hi]at h
 ·intro k j hk;rw[uN]at hk;cases hk
 ·rw[uN];exact OJ _
def Q10(P:Program)(l:List Oper)(Q:Exit→Act→World→Prop)(ws:List Nat)(G:(Nat→Bool)→(Nat→Value)→World→Prop){T:World→World→Prop}(Φ:List (Cd T))(x:Nat→Value)(a:Act)(W:World)(i:Nat)(o:Oper):Prop :=
 ∀d:Nat→Bool,d i=false→(∀j,(h:Um l i j=true:=by kernel_rfl)→d j=true)→(∀k j,d k=true→Um l k j=true→d j=true)→(∀j,d j=true→(YE Φ j).p (x j) W)→G d x W→
 ∀K:Act→World→Prop,Shut (∀v W',(if ws.contains i=true then T W W'∧G (Xq d i) (Vf x i v) W' else RowKit.Below W.heap.size W W')→(YE Φ i).p v W'→K (a.put o.dst v) W')→o.wp P a W K Q
def qD(P:Program)(l:List Oper)(Q:Exit→Act→World→Prop)(ws:List Nat)(G:(Nat→Bool)→(Nat→Value)→World→Prop){T:World→World→Prop}(Φ:List (Cd T))(x:Nat→Value)(a:Act)(W:World):Nat→List Oper→Prop
 |_,[]=>True
 |i,o::os=>Q10 P l Q ws G Φ x a W i o∧qD P l Q ws G Φ x a W (i+1) os
theorem mv{l:List Oper}{ws:List Nat}{G:(Nat→Bool)→(Nat→Value)→World→Prop}{T:World→World→Prop}{Φ:List (Cd T)}{x:Nat→Value}{a:Act}{W:World}:∀(os:List Oper)(i:Nat),J7 os=true→qD P l Q ws G Φ x a W i os→E6 P l Q ws G Φ x a W i os
 |[],_,_,_=>trivial
 |o::os,i,h,hs=>by
  have h':o.guard.isNone=true∧J7 os=true:=by simpa[J7]using h
  exact⟨fun d h1 h2 h3 h4 h5 K hK=>ma h'.1 (hs.1 d h1 (fun j hj=>h2 j hj) h3 h4 h5 K hK),mv os (i+1) h'.2 hs.2⟩
theorem Gr{id:Nat}{l:List Oper}{a0:Act}{w:World}(ws:List Nat)(G:(Nat→Bool)→(Nat→Value)→World→Prop)(T:World→World→Prop)(Φ:List (Cd T)){F:(Nat→Value)→Array Value}
  (hrf:T w.drew w.drew) (htr:∀W1 W2 W3,T W1 W2→T W2 W3→T W1 W3) (OH:∀W W',RowKit.Below W.heap.size W W'→T W W')
  (hG:∀d d' x x' W W',(∀j,ws.contains j=true→d' j=d j∧(d j=true→x' j=x j))→RowKit.Below W.heap.size W W'→G d x W→G d' x' W')
  (OJ:∀x,G (fun _=>false) x w.drew)
  (hsteps:∀x W,T w.drew W→qD P l Q ws G Φ x ⟨F x,a0.defers⟩ W 0 l)
  (hdone:∀d x W,T w.drew W→(∀i,(h:i<l.length:=by decide)→d i=true)→(∀i,(h:i<l.length:=by decide)→(YE Φ i).p (x i) W)→G d x W→Q .normal ⟨F x,a0.defers⟩ W)
  (hF:∀x,Q6 x 0 l a0.tmps=F x:=by intro x;simp only[Q6];simp only[List.setIfInBounds_toArray,List.set_cons_succ,List.set_cons_zero,Nat.zero_add,Nat.reduceAdd];rfl)
  (hm:P.follows .mixedOrders=true:=by kernel_rfl) (hn:(Yw l).Nodup:=by decide) (he:Jm l=true:=by kernel_rfl) (hg:J7 l=true:=by kernel_rfl) :
  (Code.region id l.toArray true).wp P Q a0 w :=
 Qpw ws G T Φ hm hn he hrf htr OH hG OJ
  (fun x W h a ha=>by rw[hF]at ha;subst ha;exact mv l 0 hg (hsteps x W h))
  (fun d x W h hd hx hgg a ha=>by rw[hF]at ha;subst ha;exact hdone d x W h (fun i hi=>hd i hi) (fun i hi=>hx i hi) hgg)
end Mem
namespace QB
open Tree ZR Mem
def zY(t:Tk):List Value:=[ι κ t.kind,σ t.x,ι κ (t.place:Int),τ t.first]
def VK(t:Tk):Value:=ξ #[ι κ t.kind,σ t.x,ι κ (t.place:Int),τ t.first]
structure ZM(P:Nat)(w w':World):Prop where
 os:w'.os=w.os
 tape:w'.tape=w.tape
 output:w'.output=w.output
 size:w.heap.size≤w'.heap.size
 block:∀b,b<w.heap.size→b≠P→w'.heap[b]?=w.heap[b]?
section
variable {P B:Nat}{w w' w2:World}
theorem ZM.refl(P:Nat)(w:World):ZM P w w:=⟨rfl,rfl,rfl,QH _,fun _ _ _=>rfl⟩
theorem ZM.of(h:Below w.heap.size w w')(P:Nat):ZM P w w':=⟨h.os,h.tape,h.output,h.size,fun b hb _=>h.block b hb⟩
theorem ZM.trans(h:ZM P w w')(k:ZM P w' w2):ZM P w w2 :=
 ⟨k.os.trans h.os,k.tape.trans h.tape,k.output.trans h.output,VJ h.size k.size,fun b hb hP=>(k.block b (JQ hb h.size) hP).trans (h.block b hb hP)⟩
theorem ZM.ZN(h:ZM P w w')(k:Below w'.heap.size w' w2):ZM P w w2:=h.trans (ZM.of k P)
theorem ZM.lo(h:ZM P w w')(hP:P≤w.heap.size):Below P w w':=⟨h.os,h.tape,h.output,h.size,fun b hb=>h.block b (by omega) (by omega)⟩
theorem ZM.cell(h:ZM P w w'){p:Addr}(hp:p.block<w.heap.size)(hP:p.block≠P):w'.cell? p=w.cell? p:=World.cell?_of_block (w:=w) (h.block p.block hp hP)
theorem ZM.frozen(h:ZM P w w'){p:Addr}(hp:p.block<w.heap.size)(hP:p.block≠P):w'.frozen? p=w.frozen? p:=World.frozen?_of_block (w:=w) (h.block p.block hp hP)
theorem ZM.set(h:ZM P w w'){p:Addr}(hp:p.block=P∨w.heap.size≤p.block)(u:Value):ZM P w (w'.setCell p u) :=
 ⟨h.os,h.tape,h.output,by simp[World.setCell];exact h.size,fun b hb hP=>(Below.heap_setCell w' p u b (by rcases hp with hp|hp <;> omega)).trans (h.block b hb hP)⟩
theorem ZM.alloc(h:ZM P w w')(o:Obj):ZM P w (w'.alloc o):=h.ZN ((Below.refl _ _).alloc (QH _) o)
theorem ZM.drewN(h:ZM P w w')(q:Nat):ZM P w (w'.drewN q):=⟨h.os,h.tape,h.output,h.size,h.block⟩
theorem Jk{w:World}{b:Nat}{x:_}(h:w.heap[b]?=some x):b<w.heap.size:=by
 rcases Nat.lt_or_ge b w.heap.size with h' |h'
 ·exact h'
 ·rw[Array.getElem?_eq_none h']at h;cases h
structure GR(w:World)(P z:Nat)(A:Option Addr)(n C k:Nat)(L:List Tk)(d:Nat):Prop where
 blk:w.heap[P]?=some (θ #[ς A n C,ι κ (k:Int),ι κ (z:Int),ι κ (d:Int)] 46 (0,0))
 rt:RT zY 4 w P A L
 len:L.length=n
 hk:k≤n
 hn:n≤10000000
 hC:n≤C
 UN:C≤9223372036854775807
def PS(w:World)(P z:Nat)(l:List Tk)(d:Nat):Prop:=∃A n C k L,GR w P z A n C k L d∧l=L.drop k
theorem GR.keep{z:Nat}{A:Option Addr}{n C k:Nat}{L:List Tk}{d:Nat}(h:GR w P z A n C k L d)(hb:∀b,b≤P→w'.heap[b]?=w.heap[b]?):GR w' P z A n C k L d :=
 ⟨(hb P (QH _)).trans h.blk,by
  rcases h.rt with e|⟨b,e,hl,hc⟩
  ·exact .inl e
  ·exact .inr ⟨b,e,hl,fun i x hx j u hu=>(World.cell?_of_block (w:=w) (a:=⟨b,i*4+j,none⟩) (hb b (Nat.le_of_lt hl))).trans (hc i x hx j u hu)⟩,h.len,h.hk,h.hn,h.hC,h.UN⟩
theorem PS.lt{z:Nat}{l:List Tk}{d:Nat}(h:PS w P z l d):P<w.heap.size:=by
 obtain⟨A,n,C,k,L,h,_⟩:=h;exact Jk h.blk
theorem PS.len{z:Nat}{l:List Tk}{d:Nat}(h:PS w P z l d):l.length≤10000000:=by
 obtain⟨A,n,C,k,L,h,rfl⟩:=h;have:=h.len;have:=h.hn;rw[List.length_drop];omega
theorem PS.later{z:Nat}{l:List Tk}{d:Nat}(h:PS w P z l d)(hb:Below w.heap.size w w'):PS w' P z l d:=by
 have hl:=h.lt;obtain⟨A,n,C,k,L,h,e⟩:=h;exact⟨A,n,C,k,L,h.keep fun b hb'=>hb.block b (by omega),e⟩
theorem PS.alloc{z:Nat}{l:List Tk}{d:Nat}(h:PS w P z l d)(o:Obj):PS (w.alloc o) P z l d:=h.later ((Below.refl _ _).alloc (QH _) o)
theorem PS.drewN{z:Nat}{l:List Tk}{d:Nat}(h:PS w P z l d)(q:Nat):PS (w.drewN q) P z l d:=by
 obtain⟨A,n,C,k,L,h,e⟩:=h;exact⟨A,n,C,k,L,h.keep fun b hb'=>rfl,e⟩
theorem PS.set{z:Nat}{l:List Tk}{d:Nat}(h:PS w P z l d){p:Addr}(hp:P<p.block)(u:Value):PS (w.setCell p u) P z l d:=by
 obtain⟨A,n,C,k,L,h,e⟩:=h;exact⟨A,n,C,k,L,h.keep fun b hb=>Below.heap_setCell _ _ _ _ (by omega),e⟩
def Mi(B0 B:Nat):Nat→Prop:=fun b=>B0≤b∧b<B
theorem Zc{B0 B n:Nat}{v:Value}{f:F}(h:Fs w (Mi B0 B) v f)(hb:Below n w w')(hB:B≤n):Fs w' (Mi B0 B) v f :=
 h.keep fun b hb'=>hb.block b (JQ hb'.2 hB)
theorem Q7{B0 B B0' B':Nat}{v:Value}{f:F}(h:Fs w (Mi B0 B) v f)(h0:B0'≤B0)(h1:B≤B'):Fs w (Mi B0' B') v f :=
 h.more fun b hb=>⟨VJ h0 hb.1,JQ hb.2 h1⟩
theorem ki{B0 B:Nat}{v:Value}{f:F}(h:Fs w (Mi B0 B) v f)(hb:ZM P w w')(hP:P<B0)(hB:B≤w.heap.size):Fs w' (Mi B0 B) v f :=
 h.keep fun b hb'=>hb.block b (JQ hb'.2 hB) (by have:=hb'.1;omega)
theorem Et{B0 B:Nat}{v:Value}{f:F}(h:Fs w (Mi B0 B) v f){p:Addr}(hp:p.block<B0∨B≤p.block)(u:Value):Fs (w.setCell p u) (Mi B0 B) v f :=
 h.keep fun b hb'=>Below.heap_setCell _ _ _ _ (by have:=hb'.1;have:=hb'.2;omega)
end
def Si(p:Nat)(er:Int):List PanicEntry:=[{ v:=.iface 58 (ξ #[ι κ (p:Int),ι κ er]),recovered:=false }]
def Qn{α:Type}(V:World→World→Value→α→Prop)(w:World)(P z d:Nat)(R:Rd α)(e:Ending)(w':World):Prop :=
 match R with
 | .ok a l=>∃v,e=ρ v∧V w w' v a∧PS w' P z l d∧ZM P w w'
 | .bad p er=>e=.panicked (Si p er)∧ZM P w w'
def TV(w w':World)(v:Value)(t:Tk):Prop:=v=VK t
def SV(w w':World)(v:Value)(s:ByteArray):Prop:=v=σ s
def UV(w w':World)(v:Value)(_:Unit):Prop:=v=.tuple #[]
def NV(w w':World)(v:Value)(n:Nd):Prop:=∃A C,v=ξ #[ι κ n.k,σ n.x,σ n.y,ς A n.c.len C]∧Fs w' (Mi w.heap.size w'.heap.size) (ς A n.c.len C) n.c
def FV(w w':World)(v:Value)(c:F):Prop:=∃A C,v=ς A c.len C∧Fs w' (Mi w.heap.size w'.heap.size) (ς A c.len C) c
section
variable {w w':World}{P z d:Nat}
theorem Qc{α:Type}{V:World→World→Value→α→Prop}{R:Rd α}{p:Nat}{er:Int}(hR:R=.bad p er)(hb:ZM P w w'):Qn V w P z d R (.panicked (Si p er)) w':=by
 rw[hR];exact⟨rfl,hb⟩
theorem Xs{α:Type}{V:World→World→Value→α→Prop}{R:Rd α}{a:α}{l:List Tk}{v:Value}(hR:R=.ok a l)(hv:V w w' v a)(hps:PS w' P z l d)(hb:ZM P w w'):Qn V w P z d R (ρ v) w':=by
 rw[hR];exact⟨v,rfl,hv,hps,hb⟩
theorem Qf{α:Type}{V:World→World→Value→α→Prop}{R:Rd α}{a:α}{l:List Tk}{f:Nat}{vs:Array Value}(h:Calls Tryz.prog f vs w (Qn V w P z d R))(hR:R=.ok a l) :
  Calls Tryz.prog f vs w fun e w'=>∃v,e=ρ v∧V w w' v a∧PS w' P z l d∧ZM P w w':=by
 rw[hR]at h;exact h
theorem Qh{α:Type}{V:World→World→Value→α→Prop}{R:Rd α}{p:Nat}{er:Int}{f:Nat}{vs:Array Value}(h:Calls Tryz.prog f vs w (Qn V w P z d R))(hR:R=.bad p er) :
  Calls Tryz.prog f vs w fun e w'=>e=.panicked (Si p er)∧ZM P w w':=by
 rw[hR]at h;exact h
end
def Z1(w:World)(g:Nat)(T:TypeId)(a b c d:Value):Prop:=w.heap[g]?=some (θ #[a,b,c,d] T (0,0))
section
variable {w w':World}{g:Nat}{T:TypeId}{a b c d:Value}
theorem Z1.cells(h:Z1 w g T a b c d):w.cell? ⟨g,0,none⟩=some a∧w.cell? ⟨g,1,none⟩=some b∧w.cell? ⟨g,2,none⟩=some c∧w.cell? ⟨g,3,none⟩=some d:=by
 unfold Z1 at h;simp[World.cell?,h]
theorem Z1.VD(h:Z1 w g T a b c d):w.frozen? ⟨g,0,none⟩=false∧w.frozen? ⟨g,1,none⟩=false∧w.frozen? ⟨g,2,none⟩=false∧w.frozen? ⟨g,3,none⟩=false:=by
 unfold Z1 at h;simp[World.frozen?,h]
theorem Z1.lt(h:Z1 w g T a b c d):g<w.heap.size:=Jk h
theorem Z1.later(h:Z1 w g T a b c d)(hb:Below w.heap.size w w'):Z1 w' g T a b c d:=(hb.block g h.lt).trans h
theorem Z1.QS{P:Nat}(h:Z1 w g T a b c d)(hb:ZM P w w')(hP:g≠P):Z1 w' g T a b c d:=(hb.block g h.lt hP).trans h
theorem JB{w w':World}{g:Nat}{T:TypeId}{a b c d:Value}(h:Hid (Z1 w g T a b c d))(hb:Below w.heap.size w w'):Hid (Z1 w' g T a b c d):=Z1.later h.out hb
theorem JY{w w':World}{g P:Nat}{T:TypeId}{a b c d:Value}(h:Hid (Z1 w g T a b c d))(hb:ZM P w w')(hP:g≠P):Hid (Z1 w' g T a b c d):=Z1.QS h.out hb hP
theorem Z1.other(h:Z1 w g T a b c d){p:Addr}(hp:p.block≠g)(u:Value):Z1 (w.setCell p u) g T a b c d:=(Below.heap_setCell w p u g (Ne.symm hp)).trans h
theorem Z1.ZT(h:Z1 w g T a b c d)(a' b' c' d':Value):Z1 ((((w.setCell ⟨g,0,none⟩ a').setCell ⟨g,1,none⟩ b').setCell ⟨g,2,none⟩ c').setCell ⟨g,3,none⟩ d') g T a' b' c' d':=by
 have hl:=h.lt;unfold Z1 at h⊢;have e:w.heap[g]'hl=θ #[a,b,c,d] T (0,0):=by rw[Array.getElem?_eq_getElem hl]at h;exact Option.some.inj h
 simp[World.setCell,Array.getElem?_modify,h]
theorem Qv(w:World)(T:TypeId)(a b c d:Value):Z1 (w.alloc (θ #[a,b,c,d] T)) w.heap.size T a b c d:=heap_alloc_new _ _
end
theorem tW{B:Nat}{a w:World}(h:Below B a w)(n:Nat):Below B a (w.drewN n):=⟨h.os,h.tape,h.output,h.size,h.block⟩
theorem Z1.drewN{w:World}{g:Nat}{T:TypeId}{a b c d:Value}(h:Z1 w g T a b c d)(q:Nat):Z1 (w.drewN q) g T a b c d:=h
section
variable {P B z d g:Nat}{w w':World}
theorem gu(h:Below B w w')(hg:B≤g)(v0 v1 v2 v3:Value):Below B w ((((w'.setCell ⟨g,0,none⟩ v0).setCell ⟨g,1,none⟩ v1).setCell ⟨g,2,none⟩ v2).setCell ⟨g,3,none⟩ v3) :=
 (((h.setCell (p:=⟨g,0,none⟩) hg _).setCell (p:=⟨g,1,none⟩) hg _).setCell (p:=⟨g,2,none⟩) hg _).setCell (p:=⟨g,3,none⟩) hg _
theorem Uh(h:ZM P w w')(hg:w.heap.size≤g)(v0 v1 v2 v3:Value):ZM P w ((((w'.setCell ⟨g,0,none⟩ v0).setCell ⟨g,1,none⟩ v1).setCell ⟨g,2,none⟩ v2).setCell ⟨g,3,none⟩ v3) :=
 (((h.set (p:=⟨g,0,none⟩) (.inr hg) _).set (p:=⟨g,1,none⟩) (.inr hg) _).set (p:=⟨g,2,none⟩) (.inr hg) _).set (p:=⟨g,3,none⟩) (.inr hg) _
theorem Va{l:List Tk}(h:PS w P z l d)(hg:P<g)(v0 v1 v2 v3:Value):PS ((((w.setCell ⟨g,0,none⟩ v0).setCell ⟨g,1,none⟩ v1).setCell ⟨g,2,none⟩ v2).setCell ⟨g,3,none⟩ v3) P z l d :=
 (((h.set (p:=⟨g,0,none⟩) hg _).set (p:=⟨g,1,none⟩) hg _).set (p:=⟨g,2,none⟩) hg _).set (p:=⟨g,3,none⟩) hg _
theorem V4{B0 B:Nat}{v:Value}{f:F}(h:Fs w (Mi B0 B) v f)(hg:g<B0∨B≤g)(v0 v1 v2 v3:Value):Fs ((((w.setCell ⟨g,0,none⟩ v0).setCell ⟨g,1,none⟩ v1).setCell ⟨g,2,none⟩ v2).setCell ⟨g,3,none⟩ v3) (Mi B0 B) v f :=
 Et (p:=⟨g,3,none⟩) (Et (p:=⟨g,2,none⟩) (Et (p:=⟨g,1,none⟩) (Et (p:=⟨g,0,none⟩) h hg _) hg _) hg _) hg _
theorem Z2(w:World)(g:Nat)(v0 v1 v2 v3:Value):((((w.setCell ⟨g,0,none⟩ v0).setCell ⟨g,1,none⟩ v1).setCell ⟨g,2,none⟩ v2).setCell ⟨g,3,none⟩ v3).heap.size=w.heap.size:=by simp[World.setCell]
end
