import Derived.Test.YtaiihnniblibaaaGreatDoorG25
set_option maxHeartbeats 8000000
set_option maxRecDepth 100000
set_option linter.unusedVariables false
open Go.ChangeShapes Go.WideShapes Go.ChangeAt Go.RowKit Go.Proofs.Tryz
open Go.Lib renaming hid→QA
open Go.Value renaming string→σ,int→ι,slice→ς,bool→τ,agg→ξ
open Go.IntKind renaming i64→κ
open Go.Obj renaming cells→θ
open Go.Ending renaming returned→ρ
namespace Go.Proofs.YtaiihnniblibaaaGreatDoor
namespace Lex
open KL
def Fe(t:Tok):Prop:=t.kind=6∧t.text=[]
instance (t:Tok):Decidable (Fe t):=by unfold Fe;exact inferInstance
def wE:List Tok→Bool
 |[]=>false
 |u::_=>decide (u.kind=5) && !u.first
def part(gp:List Int)(t:Tok)(r:List Tok):List Int :=
 if Fe t then(if wE r then[]else[10])else gp++t.text++(if t.kind=5 then[10]else[])
theorem dz{t r z:List Int}(h:piece (t++r)=(5,t.length)):piece (t++10::z)=(5,t.length):=by
 obtain⟨h2,hr⟩:=gF h;have hle:=Gl ((t++r).take (Zy (t++r)));rw[List.length_take]at hle;have Mf:X3 (t++r)=Jj ((t++r).take (Zy (t++r))):=rfl;have hll:t.length≤Zy (t++r):=by omega
 have hnn:∀x∈t,(x != 10)=true:=fun x hx=>by
  obtain⟨i,hi,rfl⟩:=List.mem_iff_getElem.1 hx;have:=Ev (fun c=>c != 10) (t++r) i (by unfold Zy at hll;omega);simp only[List.getD]at this;rw[List.getElem?_append_left hi,List.getElem?_eq_getElem hi,Option.getD_some]at this;exact this
 have hlt:Zy t=t.length:=xe hnn;have hl2:Zy (t++10::z)=t.length:=by unfold Zy;rw[pD _ rfl];exact hlt
 have ht0:2≤t.length:=by
  have h3:Jj ((t++r).take (Zy (t++r)))=t.length:=by omega
  match Sl:t++r,h2 with
  |a::b::u,h2 =>
   simp only[List.take_succ_cons,List.take_zero]at h2;simp only[List.cons.injEq,and_true]at h2;obtain⟨rfl,rfl⟩:=h2;rw[Sl]at h3
   have e:∃v,(47::47::u:List Int).take (Zy (47::47::u))=47::47::v:=⟨u.take (lead (fun c=>c != 10) u),by
    show List.take (lead (fun c=>c != 10) (47::47::u)) (47::47::u)=_;simp[lead]⟩
   obtain⟨v,e⟩:=e;rw[e,cg _ rfl,cg _ rfl]at h3;omega
  |[a],h2=>simp at h2
  |[],h2=>simp at h2
 have htr:Jj t=t.length:=by
  refine tI t t.length (Nat.le_refl _) (fun hp=>?_) (fun i h1 h2=>absurd h2 (by omega));have h3:Jj ((t++r).take (Zy (t++r)))=t.length:=by omega
  have:=Uo ((t++r).take (Zy (t++r))) (by omega);rw[h3,getD_take (by omega)]at this;simp only[List.getD]at this⊢;rw[List.getElem?_append_left (by omega)]at this;exact this
 match t,ht0 with
 |a::b::u,_ =>
  have h2':[a,b]=[47,47]:=by simpa using h2
  have ea:a=47∧b=47:=by simpa using h2'
  obtain⟨rfl,rfl⟩:=ea;rw[List.cons_append,Z9,show kd 47=4 from rfl,if_neg (by omega),if_neg (by omega),if_neg (by omega),if_pos rfl,if_pos (by simp)];have:X3 (47::(47::u++10::z))=(47::47::u).length:=by have hx:X3 ((47::47::u)++10::z)=Jj (((47::47::u)++10::z).take (Zy ((47::47::u)++10::z))):=rfl;rw[hl2,List.take_left,htr]at hx;exact hx
  rw[this]
theorem nA:(∀m∈Vw,0≤m.getD 0 0∧m.getD 0 0<128)∧(∀m∈V2,0≤m.getD 0 0∧m.getD 0 0<128):=by decide +kernel
theorem Qp5{c:Int}{r:List Int}(h:(piece (c::r)).2≠0):0≤c∧c<128:=by
 have h1:=@lO c;have h2:=@lN c;have h3:=@lR c;have h6:=@kU c;have h7:=@lM c;have h8:=@jL c;rcases qY c with e|e|e|e|e|e|e
 ·have:=h1.1 e;omega
 ·have:=h2.1 e;omega
 ·have:=h3.1 e;omega
 ·rw[Z9,if_neg (by omega),if_neg (by omega),if_neg (by omega),if_pos e]at h;split at h
  ·rename_i h47
   have:c=47:=by
    cases r with
    |nil=>simp at h47
    |cons d r'=>simp at h47;exact h47.1
   omega
  ·simp only[Ks]at h;split at h
   ·rename_i hm
    have:=nA.1 _ hm;simpa using this
   ·split at h
    ·rename_i hm
     have:=nA.2 _ hm;simpa using this
    ·exact absurd rfl h
 ·have:=h6.1 e;omega
 ·have:=h7.1 e;omega
 ·have:=h8.1 e;omega
def Vs(t:List Int):Prop:=ZZ t∧bad t=t.length
theorem zl:Vs []:=⟨ZZ.nil,rfl⟩
theorem Vu{a b:List Int}(ha:Vs a)(hb:Vs b):Vs (a++b):=⟨ha.1.append hb.1,by rw[sG ha.1 hb.1 ha.2,hb.2,List.length_append]⟩
theorem Gm{a:List Int}(h:zV a):Vs a:=⟨oF h,Qv8 h⟩
theorem mR:∀(ps:List (Int×List Int))(l:List Int),ZZ l→bad l=l.length→Zk l ps []→∀p∈ps,Vs p.2
 |[],_,_,_,_,p,hp=>by cases hp
 |(k,t)::ps,l,hb,ht,⟨r,h1,h2,h3,h4⟩,p,hp=>by
  subst h1;have Hv:ZZ t:=fun x hx=>hb x (by simp[hx])
  have hbr:ZZ r:=fun x hx=>hb x (by simp[hx])
  have key:bad t=t.length∧bad r=r.length:=by
   cases r with
   |nil=>rw[List.append_nil]at ht;exact⟨ht,rfl⟩
   |cons c r' =>
    have hc:0≤c∧c<128:=by
     cases ps with
     |nil=>have:=h4.1;cases this
     |cons q ps'=>obtain⟨k',t'⟩:=q;obtain⟨r2,e1,e2,e3,_⟩:=h4;exact Qp5 (by rw[e2];exact e3)
    exact Qsp Hv (fun x hx=>hbr x (by simp[hx])) hc ht
  rcases List.mem_cons.1 hp with e|e
  ·subst e;exact⟨Hv,key.1⟩
  ·exact mR ps r hbr key.2 h4 p e
theorem qH:∀(ps:List (Int×List Int))(n:Nat)(f:Bool)(t:Tok),t∈fin ps n f→Fe t∨(t.kind≠7∧t.kind≠8∧(t.kind,t.text)∈ps)
 |[],_,_,_,h=>by cases h
 |(k,s)::ps,n,f,t,h=>by
  have lift:(Fe t∨(t.kind≠7∧t.kind≠8∧(t.kind,t.text)∈ps))→Fe t∨(t.kind≠7∧t.kind≠8∧(t.kind,t.text)∈(k,s)::ps):=fun h=>by
   rcases h with h|⟨a,b,c⟩
   ·exact .inl h
   ·exact .inr ⟨a,b,by simp[c]⟩
  by_cases h8:k=8
  ·subst h8;exact lift (qH ps (n+s.length) true t (by simpa[fin]using h))
  by_cases h7:k=7
  ·subst h7;exact lift (qH ps (n+s.length) f t (by simpa[fin]using h))
  simp only[fin,if_neg h8,if_neg h7]at h;rcases List.mem_cons.1 h with e|e
  ·subst e;exact .inr ⟨h7,h8,by simp⟩
  ·rcases List.mem_append.1 e with e|e
   ·split at e
    ·simp at e;subst e;exact .inl ⟨rfl,rfl⟩
    ·cases e
   ·exact lift (qH ps (n+s.length) false t e)
theorem mP:∀(ps:List (Int×List Int))(l z:List Int),Zk l ps z→∀p∈ps,p.2.length≠0∧∃r,piece (p.2++r)=(p.1,p.2.length)
 |[],_,_,_,p,hp=>by cases hp
 |(k,t)::ps,l,z,⟨r,h1,h2,h3,h4⟩,p,hp=>by
  rcases List.mem_cons.1 hp with e|e
  ·subst e;exact⟨h3,r,by rw[←h1];exact h2⟩
  ·exact mP ps r z h4 p e
end Lex
namespace Tree
open Mem
structure Uk(w wr:World)(yY:List Pt)(f:F)(k:Nat)(A:Option Addr)(n C:Nat)(g:F):Prop where
 fs:Fs wr (Lo wr.heap.size) (ς A n C) g
 eq:Qe (yY.drop k) g=Qe yY f
 KN:Below w.heap.size w wr
structure gW(w w3:World)(x y:ByteArray)(k:Int)(A:Option Addr)(n C:Nat)(f:F)(g3:Nat)(c3:Array Value):Prop where
  KN:Below w.heap.size w w3
  box:∀W,Below w3.heap.size w3 W→W.cell? ⟨w.heap.size,0,none⟩=some (ι κ k)∧W.cell? ⟨w.heap.size,1,none⟩=some (σ x)∧W.cell? ⟨w.heap.size,3,none⟩=some (ς A n C)
  fs:Fs w3 (Lo w3.heap.size) (ς A n C) f
  t3:qu w3 (.func (.func g3) #[] c3) (Qk [33])
def JC(x:ByteArray):Bool:=Lex.Xd (Lex.nums x)
def JT(x:ByteArray)(k:Int):Bool:=decide (Lex.K6 (Lex.nums x)=0)&&(match Lex.Uz (Lex.nums x)with
  |[]=>false
  |t::_=>t.kind==k&&(strOfNums t.text).toList==x.toList)
end Tree
namespace Tree
theorem V9(k:Int)(x:ByteArray):Qt k x=decide (9≤k∧k≤13):=by
  unfold Qt;by_cases h:9≤k∧k≤13
  ·rw[decide_eq_true h];have:k=9∨k=10∨k=11∨k=12∨k=13:=by omega
   rcases this with rfl|rfl|rfl|rfl|rfl <;> rfl
  ·rw[decide_eq_false h,ZC (by omega),ZC (by omega),ZC (by omega),ZC (by omega),ZC (by omega)];rfl
theorem V8(k:Int)(x:ByteArray):Qg k x=(k==9||decide (26≤k∧k≤32)):=by
  unfold Qg;by_cases h9:k=9
  ·subst h9;rfl
  by_cases h:26≤k∧k≤32
  ·rw[decide_eq_true h,ZC h9];have:k=26∨k=27∨k=28∨k=29∨k=30∨k=31∨k=32:=by omega
   rcases this with rfl|rfl|rfl|rfl|rfl|rfl|rfl <;> rfl
  ·rw[decide_eq_false h,ZC h9,ZC (by omega),ZC (by omega),ZC (by omega),ZC (by omega),ZC (by omega),ZC (by omega),ZC (by omega)];rfl
theorem Gh(k:Int)(x:ByteArray):Js k x=(k==5||k==8||decide (17≤k∧k≤25)):=by
  unfold Js;by_cases h5:k=5
  ·subst h5;rfl
  by_cases h8:k=8
  ·subst h8;rfl
  by_cases h:17≤k∧k≤25
  ·rw[decide_eq_true h,ZC h5,ZC h8];have:k=17∨k=18∨k=19∨k=20∨k=21∨k=22∨k=23∨k=24∨k=25:=by omega
   rcases this with rfl|rfl|rfl|rfl|rfl|rfl|rfl|rfl|rfl <;> rfl
  ·rw[decide_eq_false h,ZC h5,ZC h8,ZC (by omega),ZC (by omega),ZC (by omega),ZC (by omega),ZC (by omega),ZC (by omega),ZC (by omega),ZC (by omega),ZC (by omega)];rfl
def Qj(s:Int)(k:Int)(x:ByteArray):Bool :=
  if s=116 then Qt k x else if s=101 then Qg k x else if s=112 then Zv k x
  else if s=84 then Qt k x||k==33 else if s=69 then Qg k x||k==33 else if s=82 then k==16||k==33
  else if s=65 then k==15 else if s=80 then k==16 else if s=66 then k==17 else if s=76 then k==17||k==18||k==33
  else if s=67 then k==30 else if s=115 then Js k x else if s=102 then k==14||k==8 else if s=78 then k==9 else false
theorem aF(k:Int)(x y:ByteArray)(A:Option Addr)(n C:Nat)(w:World):Calls prog 60 #[ξ #[ι κ k,σ x,σ y,ς A n C],ι .u8 112] w fun e w'=>e = ρ (τ (Qj 112 k x))∧Below w.heap.size w w':=by
  by_cases e9:k=9
  ·subst e9;rw[show Qj 112 9 x=true by rfl];go_enter func60,ntmps60;go_wp2;go_ret;exact⟨rfl,Qb _ _⟩
  have n9:=ZC e9;by_cases eG:k=31
  ·subst eG;rw[show Qj 112 31 x=true by rfl];go_enter func60,ntmps60;go_wp2;go_ret;exact⟨rfl,Qb _ _⟩
  have BL:=ZC eG;by_cases eF:k=32
  ·subst eF;rw[show Qj 112 32 x=true by rfl];go_enter func60,ntmps60;go_wp2;go_ret;exact⟨rfl,Qb _ _⟩
  have n32:=ZC eF;by_cases eH:k=28
  ·subst eH;cases hx:(x.toList==[42])with
   |true=>rw[show Qj 112 28 x=true by simp[Qj,Zv,hx]];go_enter func60,ntmps60;go_wp2;go_ret;exact⟨rfl,Qb _ _⟩
   |false=>rw[show Qj 112 28 x=false by simp[Qj,Zv,hx]];go_enter func60,ntmps60;go_wp2;go_ret;exact⟨rfl,Qb _ _⟩
  have BM:=ZC eH;by_cases cT:10≤k∧k≤13
  ·skip
   have h10:(10:Int)≤k:=by omega
   have VQ:k≤13:=by omega
   have VP:¬(26:Int)≤k:=by omega
   have VB:¬(17:Int)≤k:=by omega
   rw[show Qj 112 k x=false by(show Zv k x=_;unfold Zv;rw[n9,BL,n32,BM];rfl)];go_enter func60,ntmps60;go_wp2;go_ret;exact⟨rfl,Qb _ _⟩
  by_cases cL:k<10
  ·skip
   have h10:¬(10:Int)≤k:=by omega
   have VP:¬(26:Int)≤k:=by omega
   have VB:¬(17:Int)≤k:=by omega
   rw[show Qj 112 k x=false by(show Zv k x=_;unfold Zv;rw[n9,BL,n32,BM];rfl)];go_enter func60,ntmps60;go_wp2;go_ret;exact⟨rfl,Qb _ _⟩
  by_cases cM:14≤k∧k≤16
  ·skip
   have h10:(10:Int)≤k:=by omega
   have VQ:¬k≤13:=by omega
   have VP:¬(26:Int)≤k:=by omega
   have VB:¬(17:Int)≤k:=by omega
   rw[show Qj 112 k x=false by(show Zv k x=_;unfold Zv;rw[n9,BL,n32,BM];rfl)];go_enter func60,ntmps60;go_wp2;go_ret;exact⟨rfl,Qb _ _⟩
  by_cases cN:17≤k∧k≤25
  ·skip
   have h10:(10:Int)≤k:=by omega
   have VQ:¬k≤13:=by omega
   have VP:¬(26:Int)≤k:=by omega
   have VB:(17:Int)≤k:=by omega
   have KX:k≤25:=by omega
   rw[show Qj 112 k x=false by(show Zv k x=_;unfold Zv;rw[n9,BL,n32,BM];rfl)];go_enter func60,ntmps60;go_wp2;go_ret;exact⟨rfl,Qb _ _⟩
  by_cases cV:26≤k∧k≤32
  ·skip
   have h10:(10:Int)≤k:=by omega
   have VQ:¬k≤13:=by omega
   have VP:(26:Int)≤k:=by omega
   have GY:k≤32:=by omega
   have VB:(17:Int)≤k:=by omega
   have KX:¬k≤25:=by omega
   rw[show Qj 112 k x=false by(show Zv k x=_;unfold Zv;rw[n9,BL,n32,BM];rfl)];go_enter func60,ntmps60;go_wp2;go_ret;exact⟨rfl,Qb _ _⟩
  have h10:(10:Int)≤k:=by omega
  have VQ:¬k≤13:=by omega
  have VP:(26:Int)≤k:=by omega
  have GY:¬k≤32:=by omega
  have VB:(17:Int)≤k:=by omega
  have KX:¬k≤25:=by omega
  rw[show Qj 112 k x=false by(show Zv k x=_;unfold Zv;rw[n9,BL,n32,BM];rfl)];go_enter func60,ntmps60;go_wp2;go_ret;exact⟨rfl,Qb _ _⟩
theorem oU(k:Int)(x y:ByteArray)(A:Option Addr)(n C:Nat)(w:World):Calls prog 60 #[ξ #[ι κ k,σ x,σ y,ς A n C],ι .u8 84] w fun e w'=>e = ρ (τ (Qj 84 k x))∧Below w.heap.size w w':=by
  by_cases e9:k=9
  ·subst e9;rw[show Qj 84 9 x=true by rfl];go_enter func60,ntmps60;go_wp2;go_ret;exact⟨rfl,Qb _ _⟩
  have n9:=ZC e9;by_cases cT:10≤k∧k≤13
  ·skip
   have h10:(10:Int)≤k:=by omega
   have VQ:k≤13:=by omega
   have VP:¬(26:Int)≤k:=by omega
   have VB:¬(17:Int)≤k:=by omega
   rw[show Qj 84 k x=true by(show(Qt k x||k==33)=_;rw[V9,decide_eq_true (by omega)];simp)];go_enter func60,ntmps60;go_wp2;go_ret;exact⟨rfl,Qb _ _⟩
  by_cases cL:k<10
  ·skip
   have h10:¬(10:Int)≤k:=by omega
   have VP:¬(26:Int)≤k:=by omega
   have VB:¬(17:Int)≤k:=by omega
   rw[show Qj 84 k x=(k==33)by(show(Qt k x||k==33)=_;rw[V9,decide_eq_false (by omega)];simp)];go_enter func60,ntmps60;go_wp2;go_ret;exact⟨rfl,Qb _ _⟩
  by_cases cM:14≤k∧k≤16
  ·skip
   have h10:(10:Int)≤k:=by omega
   have VQ:¬k≤13:=by omega
   have VP:¬(26:Int)≤k:=by omega
   have VB:¬(17:Int)≤k:=by omega
   rw[show Qj 84 k x=(k==33)by(show(Qt k x||k==33)=_;rw[V9,decide_eq_false (by omega)];simp)];go_enter func60,ntmps60;go_wp2;go_ret;exact⟨rfl,Qb _ _⟩
  by_cases cN:17≤k∧k≤25
  ·skip
   have h10:(10:Int)≤k:=by omega
   have VQ:¬k≤13:=by omega
   have VP:¬(26:Int)≤k:=by omega
   have VB:(17:Int)≤k:=by omega
   have KX:k≤25:=by omega
   rw[show Qj 84 k x=(k==33)by(show(Qt k x||k==33)=_;rw[V9,decide_eq_false (by omega)];simp)];go_enter func60,ntmps60;go_wp2;go_ret;exact⟨rfl,Qb _ _⟩
  by_cases cV:26≤k∧k≤32
  ·skip
   have h10:(10:Int)≤k:=by omega
   have VQ:¬k≤13:=by omega
   have VP:(26:Int)≤k:=by omega
   have GY:k≤32:=by omega
   have VB:(17:Int)≤k:=by omega
   have KX:¬k≤25:=by omega
   rw[show Qj 84 k x=(k==33)by(show(Qt k x||k==33)=_;rw[V9,decide_eq_false (by omega)];simp)];go_enter func60,ntmps60;go_wp2;go_ret;exact⟨rfl,Qb _ _⟩
  have h10:(10:Int)≤k:=by omega
  have VQ:¬k≤13:=by omega
  have VP:(26:Int)≤k:=by omega
  have GY:¬k≤32:=by omega
  have VB:(17:Int)≤k:=by omega
  have KX:¬k≤25:=by omega
  rw[show Qj 84 k x=(k==33)by(show(Qt k x||k==33)=_;rw[V9,decide_eq_false (by omega)];simp)];go_enter func60,ntmps60;go_wp2;go_ret;exact⟨rfl,Qb _ _⟩
theorem oQ(k:Int)(x y:ByteArray)(A:Option Addr)(n C:Nat)(w:World):Calls prog 60 #[ξ #[ι κ k,σ x,σ y,ς A n C],ι .u8 82] w fun e w'=>e = ρ (τ (Qj 82 k x))∧Below w.heap.size w w':=by
  by_cases e9:k=9
  ·subst e9;rw[show Qj 82 9 x=false by rfl];go_enter func60,ntmps60;go_wp2;go_ret;exact⟨rfl,Qb _ _⟩
  have n9:=ZC e9;by_cases e16:k=16
  ·subst e16;rw[show Qj 82 16 x=true by rfl];go_enter func60,ntmps60;go_wp2;go_ret;exact⟨rfl,Qb _ _⟩
  have n16:=ZC e16;by_cases cT:10≤k∧k≤13
  ·skip
   have h10:(10:Int)≤k:=by omega
   have VQ:k≤13:=by omega
   have VP:¬(26:Int)≤k:=by omega
   have VB:¬(17:Int)≤k:=by omega
   rw[show Qj 82 k x=(k==33)by(show(k==16||k==33)=_;rw[n16];rfl)];go_enter func60,ntmps60;go_wp2;go_ret;exact⟨rfl,Qb _ _⟩
  by_cases cL:k<10
  ·skip
   have h10:¬(10:Int)≤k:=by omega
   have VP:¬(26:Int)≤k:=by omega
   have VB:¬(17:Int)≤k:=by omega
   rw[show Qj 82 k x=(k==33)by(show(k==16||k==33)=_;rw[n16];rfl)];go_enter func60,ntmps60;go_wp2;go_ret;exact⟨rfl,Qb _ _⟩
  by_cases cM:14≤k∧k≤16
  ·skip
   have h10:(10:Int)≤k:=by omega
   have VQ:¬k≤13:=by omega
   have VP:¬(26:Int)≤k:=by omega
   have VB:¬(17:Int)≤k:=by omega
   rw[show Qj 82 k x=(k==33)by(show(k==16||k==33)=_;rw[n16];rfl)];go_enter func60,ntmps60;go_wp2;go_ret;exact⟨rfl,Qb _ _⟩
  by_cases cN:17≤k∧k≤25
  ·skip
   have h10:(10:Int)≤k:=by omega
   have VQ:¬k≤13:=by omega
   have VP:¬(26:Int)≤k:=by omega
   have VB:(17:Int)≤k:=by omega
   have KX:k≤25:=by omega
   rw[show Qj 82 k x=(k==33)by(show(k==16||k==33)=_;rw[n16];rfl)];go_enter func60,ntmps60;go_wp2;go_ret;exact⟨rfl,Qb _ _⟩
  by_cases cV:26≤k∧k≤32
  ·skip
   have h10:(10:Int)≤k:=by omega
   have VQ:¬k≤13:=by omega
   have VP:(26:Int)≤k:=by omega
   have GY:k≤32:=by omega
   have VB:(17:Int)≤k:=by omega
   have KX:¬k≤25:=by omega
   rw[show Qj 82 k x=(k==33)by(show(k==16||k==33)=_;rw[n16];rfl)];go_enter func60,ntmps60;go_wp2;go_ret;exact⟨rfl,Qb _ _⟩
  have h10:(10:Int)≤k:=by omega
  have VQ:¬k≤13:=by omega
  have VP:(26:Int)≤k:=by omega
  have GY:¬k≤32:=by omega
  have VB:(17:Int)≤k:=by omega
  have KX:¬k≤25:=by omega
  rw[show Qj 82 k x=(k==33)by(show(k==16||k==33)=_;rw[n16];rfl)];go_enter func60,ntmps60;go_wp2;go_ret;exact⟨rfl,Qb _ _⟩
theorem aN(k:Int)(x y:ByteArray)(A:Option Addr)(n C:Nat)(w:World):Calls prog 60 #[ξ #[ι κ k,σ x,σ y,ς A n C],ι .u8 78] w fun e w'=>e = ρ (τ (Qj 78 k x))∧Below w.heap.size w w':=by
  by_cases e9:k=9
  ·subst e9;rw[show Qj 78 9 x=true by rfl];go_enter func60,ntmps60;go_wp2;go_ret;exact⟨rfl,Qb _ _⟩
  have n9:=ZC e9;by_cases cT:10≤k∧k≤13
  ·skip
   have h10:(10:Int)≤k:=by omega
   have VQ:k≤13:=by omega
   have VP:¬(26:Int)≤k:=by omega
   have VB:¬(17:Int)≤k:=by omega
   rw[show Qj 78 k x=false by(show(k==9)=_;rw[n9])];go_enter func60,ntmps60;go_wp2;go_ret;exact⟨rfl,Qb _ _⟩
  by_cases cL:k<10
  ·skip
   have h10:¬(10:Int)≤k:=by omega
   have VP:¬(26:Int)≤k:=by omega
   have VB:¬(17:Int)≤k:=by omega
   rw[show Qj 78 k x=false by(show(k==9)=_;rw[n9])];go_enter func60,ntmps60;go_wp2;go_ret;exact⟨rfl,Qb _ _⟩
  by_cases cM:14≤k∧k≤16
  ·skip
   have h10:(10:Int)≤k:=by omega
   have VQ:¬k≤13:=by omega
   have VP:¬(26:Int)≤k:=by omega
   have VB:¬(17:Int)≤k:=by omega
   rw[show Qj 78 k x=false by(show(k==9)=_;rw[n9])];go_enter func60,ntmps60;go_wp2;go_ret;exact⟨rfl,Qb _ _⟩
  by_cases cN:17≤k∧k≤25
  ·skip
   have h10:(10:Int)≤k:=by omega
   have VQ:¬k≤13:=by omega
   have VP:¬(26:Int)≤k:=by omega
   have VB:(17:Int)≤k:=by omega
   have KX:k≤25:=by omega
   rw[show Qj 78 k x=false by(show(k==9)=_;rw[n9])];go_enter func60,ntmps60;go_wp2;go_ret;exact⟨rfl,Qb _ _⟩
  by_cases cV:26≤k∧k≤32
  ·skip
   have h10:(10:Int)≤k:=by omega
   have VQ:¬k≤13:=by omega
   have VP:(26:Int)≤k:=by omega
   have GY:k≤32:=by omega
   have VB:(17:Int)≤k:=by omega
   have KX:¬k≤25:=by omega
   rw[show Qj 78 k x=false by(show(k==9)=_;rw[n9])];go_enter func60,ntmps60;go_wp2;go_ret;exact⟨rfl,Qb _ _⟩
  have h10:(10:Int)≤k:=by omega
  have VQ:¬k≤13:=by omega
  have VP:(26:Int)≤k:=by omega
  have GY:¬k≤32:=by omega
  have VB:(17:Int)≤k:=by omega
  have KX:¬k≤25:=by omega
  rw[show Qj 78 k x=false by(show(k==9)=_;rw[n9])];go_enter func60,ntmps60;go_wp2;go_ret;exact⟨rfl,Qb _ _⟩
theorem aJ(k:Int)(x y:ByteArray)(A:Option Addr)(n C:Nat)(w:World):Calls prog 60 #[ξ #[ι κ k,σ x,σ y,ς A n C],ι .u8 66] w fun e w'=>e = ρ (τ (Qj 66 k x))∧Below w.heap.size w w':=by
  by_cases e9:k=9
  ·subst e9;rw[show Qj 66 9 x=false by rfl];go_enter func60,ntmps60;go_wp2;go_ret;exact⟨rfl,Qb _ _⟩
  have n9:=ZC e9;by_cases cT:10≤k∧k≤13
  ·skip
   have h10:(10:Int)≤k:=by omega
   have VQ:k≤13:=by omega
   have VP:¬(26:Int)≤k:=by omega
   have VB:¬(17:Int)≤k:=by omega
   rw[show Qj 66 k x=(k==17)from rfl];go_enter func60,ntmps60;go_wp2;go_ret;exact⟨rfl,Qb _ _⟩
  by_cases cL:k<10
  ·skip
   have h10:¬(10:Int)≤k:=by omega
   have VP:¬(26:Int)≤k:=by omega
   have VB:¬(17:Int)≤k:=by omega
   rw[show Qj 66 k x=(k==17)from rfl];go_enter func60,ntmps60;go_wp2;go_ret;exact⟨rfl,Qb _ _⟩
  by_cases cM:14≤k∧k≤16
  ·skip
   have h10:(10:Int)≤k:=by omega
   have VQ:¬k≤13:=by omega
   have VP:¬(26:Int)≤k:=by omega
   have VB:¬(17:Int)≤k:=by omega
   rw[show Qj 66 k x=(k==17)from rfl];go_enter func60,ntmps60;go_wp2;go_ret;exact⟨rfl,Qb _ _⟩
  by_cases cN:17≤k∧k≤25
  ·skip
   have h10:(10:Int)≤k:=by omega
   have VQ:¬k≤13:=by omega
   have VP:¬(26:Int)≤k:=by omega
   have VB:(17:Int)≤k:=by omega
   have KX:k≤25:=by omega
   rw[show Qj 66 k x=(k==17)from rfl];go_enter func60,ntmps60;go_wp2;go_ret;exact⟨rfl,Qb _ _⟩
  by_cases cV:26≤k∧k≤32
  ·skip
   have h10:(10:Int)≤k:=by omega
   have VQ:¬k≤13:=by omega
   have VP:(26:Int)≤k:=by omega
   have GY:k≤32:=by omega
   have VB:(17:Int)≤k:=by omega
   have KX:¬k≤25:=by omega
   rw[show Qj 66 k x=(k==17)from rfl];go_enter func60,ntmps60;go_wp2;go_ret;exact⟨rfl,Qb _ _⟩
  have h10:(10:Int)≤k:=by omega
  have VQ:¬k≤13:=by omega
  have VP:(26:Int)≤k:=by omega
  have GY:¬k≤32:=by omega
  have VB:(17:Int)≤k:=by omega
  have KX:¬k≤25:=by omega
  rw[show Qj 66 k x=(k==17)from rfl];go_enter func60,ntmps60;go_wp2;go_ret;exact⟨rfl,Qb _ _⟩
theorem aM(k:Int)(x y:ByteArray)(A:Option Addr)(n C:Nat)(w:World):Calls prog 60 #[ξ #[ι κ k,σ x,σ y,ς A n C],ι .u8 76] w fun e w'=>e = ρ (τ (Qj 76 k x))∧Below w.heap.size w w':=by
  by_cases e9:k=9
  ·subst e9;rw[show Qj 76 9 x=false by rfl];go_enter func60,ntmps60;go_wp2;go_ret;exact⟨rfl,Qb _ _⟩
  have n9:=ZC e9;by_cases e17:k=17
  ·subst e17;rw[show Qj 76 17 x=true by rfl];go_enter func60,ntmps60;go_wp2;go_ret;exact⟨rfl,Qb _ _⟩
  have n17:=ZC e17;by_cases e18:k=18
  ·subst e18;rw[show Qj 76 18 x=true by rfl];go_enter func60,ntmps60;go_wp2;go_ret;exact⟨rfl,Qb _ _⟩
  have n18:=ZC e18;by_cases cT:10≤k∧k≤13
  ·skip
   have h10:(10:Int)≤k:=by omega
   have VQ:k≤13:=by omega
   have VP:¬(26:Int)≤k:=by omega
   have VB:¬(17:Int)≤k:=by omega
   rw[show Qj 76 k x=(k==33)by(show(k==17||k==18||k==33)=_;rw[n17,n18];rfl)];go_enter func60,ntmps60;go_wp2;go_ret;exact⟨rfl,Qb _ _⟩
  by_cases cL:k<10
  ·skip
   have h10:¬(10:Int)≤k:=by omega
   have VP:¬(26:Int)≤k:=by omega
   have VB:¬(17:Int)≤k:=by omega
   rw[show Qj 76 k x=(k==33)by(show(k==17||k==18||k==33)=_;rw[n17,n18];rfl)];go_enter func60,ntmps60;go_wp2;go_ret;exact⟨rfl,Qb _ _⟩
  by_cases cM:14≤k∧k≤16
  ·skip
   have h10:(10:Int)≤k:=by omega
   have VQ:¬k≤13:=by omega
   have VP:¬(26:Int)≤k:=by omega
   have VB:¬(17:Int)≤k:=by omega
   rw[show Qj 76 k x=(k==33)by(show(k==17||k==18||k==33)=_;rw[n17,n18];rfl)];go_enter func60,ntmps60;go_wp2;go_ret;exact⟨rfl,Qb _ _⟩
  by_cases cN:17≤k∧k≤25
  ·skip
   have h10:(10:Int)≤k:=by omega
   have VQ:¬k≤13:=by omega
   have VP:¬(26:Int)≤k:=by omega
   have VB:(17:Int)≤k:=by omega
   have KX:k≤25:=by omega
   rw[show Qj 76 k x=(k==33)by(show(k==17||k==18||k==33)=_;rw[n17,n18];rfl)];go_enter func60,ntmps60;go_wp2;go_ret;exact⟨rfl,Qb _ _⟩
  by_cases cV:26≤k∧k≤32
  ·skip
   have h10:(10:Int)≤k:=by omega
   have VQ:¬k≤13:=by omega
   have VP:(26:Int)≤k:=by omega
   have GY:k≤32:=by omega
   have VB:(17:Int)≤k:=by omega
   have KX:¬k≤25:=by omega
   rw[show Qj 76 k x=(k==33)by(show(k==17||k==18||k==33)=_;rw[n17,n18];rfl)];go_enter func60,ntmps60;go_wp2;go_ret;exact⟨rfl,Qb _ _⟩
  have h10:(10:Int)≤k:=by omega
  have VQ:¬k≤13:=by omega
  have VP:(26:Int)≤k:=by omega
  have GY:¬k≤32:=by omega
  have VB:(17:Int)≤k:=by omega
  have KX:¬k≤25:=by omega
  rw[show Qj 76 k x=(k==33)by(show(k==17||k==18||k==33)=_;rw[n17,n18];rfl)];go_enter func60,ntmps60;go_wp2;go_ret;exact⟨rfl,Qb _ _⟩
theorem aK(k:Int)(x y:ByteArray)(A:Option Addr)(n C:Nat)(w:World):Calls prog 60 #[ξ #[ι κ k,σ x,σ y,ς A n C],ι .u8 67] w fun e w'=>e = ρ (τ (Qj 67 k x))∧Below w.heap.size w w':=by
  by_cases e9:k=9
  ·subst e9;rw[show Qj 67 9 x=false by rfl];go_enter func60,ntmps60;go_wp2;go_ret;exact⟨rfl,Qb _ _⟩
  have n9:=ZC e9;by_cases cT:10≤k∧k≤13
  ·skip
   have h10:(10:Int)≤k:=by omega
   have VQ:k≤13:=by omega
   have VP:¬(26:Int)≤k:=by omega
   have VB:¬(17:Int)≤k:=by omega
   rw[show Qj 67 k x=(k==30)from rfl];go_enter func60,ntmps60;go_wp2;go_ret;exact⟨rfl,Qb _ _⟩
  by_cases cL:k<10
  ·skip
   have h10:¬(10:Int)≤k:=by omega
   have VP:¬(26:Int)≤k:=by omega
   have VB:¬(17:Int)≤k:=by omega
   rw[show Qj 67 k x=(k==30)from rfl];go_enter func60,ntmps60;go_wp2;go_ret;exact⟨rfl,Qb _ _⟩
  by_cases cM:14≤k∧k≤16
  ·skip
   have h10:(10:Int)≤k:=by omega
   have VQ:¬k≤13:=by omega
   have VP:¬(26:Int)≤k:=by omega
   have VB:¬(17:Int)≤k:=by omega
   rw[show Qj 67 k x=(k==30)from rfl];go_enter func60,ntmps60;go_wp2;go_ret;exact⟨rfl,Qb _ _⟩
  by_cases cN:17≤k∧k≤25
  ·skip
   have h10:(10:Int)≤k:=by omega
   have VQ:¬k≤13:=by omega
   have VP:¬(26:Int)≤k:=by omega
   have VB:(17:Int)≤k:=by omega
   have KX:k≤25:=by omega
   rw[show Qj 67 k x=(k==30)from rfl];go_enter func60,ntmps60;go_wp2;go_ret;exact⟨rfl,Qb _ _⟩
  by_cases cV:26≤k∧k≤32
  ·skip
   have h10:(10:Int)≤k:=by omega
   have VQ:¬k≤13:=by omega
   have VP:(26:Int)≤k:=by omega
   have GY:k≤32:=by omega
   have VB:(17:Int)≤k:=by omega
   have KX:¬k≤25:=by omega
   rw[show Qj 67 k x=(k==30)from rfl];go_enter func60,ntmps60;go_wp2;go_ret;exact⟨rfl,Qb _ _⟩
  have h10:(10:Int)≤k:=by omega
  have VQ:¬k≤13:=by omega
  have VP:(26:Int)≤k:=by omega
  have GY:¬k≤32:=by omega
  have VB:(17:Int)≤k:=by omega
  have KX:¬k≤25:=by omega
  rw[show Qj 67 k x=(k==30)from rfl];go_enter func60,ntmps60;go_wp2;go_ret;exact⟨rfl,Qb _ _⟩
theorem aG(k:Int)(x y:ByteArray)(A:Option Addr)(n C:Nat)(w:World):Calls prog 60 #[ξ #[ι κ k,σ x,σ y,ς A n C],ι .u8 115] w fun e w'=>e = ρ (τ (Qj 115 k x))∧Below w.heap.size w w':=by
  by_cases e9:k=9
  ·subst e9;rw[show Qj 115 9 x=false by rfl];go_enter func60,ntmps60;go_wp2;go_ret;exact⟨rfl,Qb _ _⟩
  have n9:=ZC e9;by_cases e5:k=5
  ·subst e5;rw[show Qj 115 5 x=true by rfl];go_enter func60,ntmps60;go_wp2;go_ret;exact⟨rfl,Qb _ _⟩
  have n5:=ZC e5;by_cases e8:k=8
  ·subst e8;rw[show Qj 115 8 x=true by rfl];go_enter func60,ntmps60;go_wp2;go_ret;exact⟨rfl,Qb _ _⟩
  have n8:=ZC e8;by_cases cT:10≤k∧k≤13
  ·skip
   have h10:(10:Int)≤k:=by omega
   have VQ:k≤13:=by omega
   have VP:¬(26:Int)≤k:=by omega
   have VB:¬(17:Int)≤k:=by omega
   rw[show Qj 115 k x=false by(show Js k x=_;rw[Gh,n5,n8,decide_eq_false (by omega)];rfl)];go_enter func60,ntmps60;go_wp2;go_ret;exact⟨rfl,Qb _ _⟩
  by_cases cL:k<10
  ·skip
   have h10:¬(10:Int)≤k:=by omega
   have VP:¬(26:Int)≤k:=by omega
   have VB:¬(17:Int)≤k:=by omega
   rw[show Qj 115 k x=false by(show Js k x=_;rw[Gh,n5,n8,decide_eq_false (by omega)];rfl)];go_enter func60,ntmps60;go_wp2;go_ret;exact⟨rfl,Qb _ _⟩
  by_cases cM:14≤k∧k≤16
  ·skip
   have h10:(10:Int)≤k:=by omega
   have VQ:¬k≤13:=by omega
   have VP:¬(26:Int)≤k:=by omega
   have VB:¬(17:Int)≤k:=by omega
   rw[show Qj 115 k x=false by(show Js k x=_;rw[Gh,n5,n8,decide_eq_false (by omega)];rfl)];go_enter func60,ntmps60;go_wp2;go_ret;exact⟨rfl,Qb _ _⟩
  by_cases cN:17≤k∧k≤25
  ·skip
   have h10:(10:Int)≤k:=by omega
   have VQ:¬k≤13:=by omega
   have VP:¬(26:Int)≤k:=by omega
   have VB:(17:Int)≤k:=by omega
   have KX:k≤25:=by omega
   rw[show Qj 115 k x=true by(show Js k x=_;rw[Gh,n5,n8,decide_eq_true (by omega)];rfl)];go_enter func60,ntmps60;go_wp2;go_ret;exact⟨rfl,Qb _ _⟩
  by_cases cV:26≤k∧k≤32
  ·skip
   have h10:(10:Int)≤k:=by omega
   have VQ:¬k≤13:=by omega
   have VP:(26:Int)≤k:=by omega
   have GY:k≤32:=by omega
   have VB:(17:Int)≤k:=by omega
   have KX:¬k≤25:=by omega
   rw[show Qj 115 k x=false by(show Js k x=_;rw[Gh,n5,n8,decide_eq_false (by omega)];rfl)];go_enter func60,ntmps60;go_wp2;go_ret;exact⟨rfl,Qb _ _⟩
  have h10:(10:Int)≤k:=by omega
  have VQ:¬k≤13:=by omega
  have VP:(26:Int)≤k:=by omega
  have GY:¬k≤32:=by omega
  have VB:(17:Int)≤k:=by omega
  have KX:¬k≤25:=by omega
  rw[show Qj 115 k x=false by(show Js k x=_;rw[Gh,n5,n8,decide_eq_false (by omega)];rfl)];go_enter func60,ntmps60;go_wp2;go_ret;exact⟨rfl,Qb _ _⟩
theorem aD(k:Int)(x y:ByteArray)(A:Option Addr)(n C:Nat)(w:World):Calls prog 60 #[ξ #[ι κ k,σ x,σ y,ς A n C],ι .u8 102] w fun e w'=>e = ρ (τ (Qj 102 k x))∧Below w.heap.size w w':=by
  by_cases e9:k=9
  ·subst e9;rw[show Qj 102 9 x=false by rfl];go_enter func60,ntmps60;go_wp2;go_ret;exact⟨rfl,Qb _ _⟩
  have n9:=ZC e9;by_cases eI:k=14
  ·subst eI;rw[show Qj 102 14 x=true by rfl];go_enter func60,ntmps60;go_wp2;go_ret;exact⟨rfl,Qb _ _⟩
  have n14:=ZC eI;by_cases cT:10≤k∧k≤13
  ·skip
   have h10:(10:Int)≤k:=by omega
   have VQ:k≤13:=by omega
   have VP:¬(26:Int)≤k:=by omega
   have VB:¬(17:Int)≤k:=by omega
   rw[show Qj 102 k x=(k==8)by(show(k==14||k==8)=_;rw[n14];rfl)];go_enter func60,ntmps60;go_wp2;go_ret;exact⟨rfl,Qb _ _⟩
  by_cases cL:k<10
  ·skip
   have h10:¬(10:Int)≤k:=by omega
   have VP:¬(26:Int)≤k:=by omega
   have VB:¬(17:Int)≤k:=by omega
   rw[show Qj 102 k x=(k==8)by(show(k==14||k==8)=_;rw[n14];rfl)];go_enter func60,ntmps60;go_wp2;go_ret;exact⟨rfl,Qb _ _⟩
  by_cases cM:14≤k∧k≤16
  ·skip
   have h10:(10:Int)≤k:=by omega
   have VQ:¬k≤13:=by omega
   have VP:¬(26:Int)≤k:=by omega
   have VB:¬(17:Int)≤k:=by omega
   rw[show Qj 102 k x=(k==8)by(show(k==14||k==8)=_;rw[n14];rfl)];go_enter func60,ntmps60;go_wp2;go_ret;exact⟨rfl,Qb _ _⟩
  by_cases cN:17≤k∧k≤25
  ·skip
   have h10:(10:Int)≤k:=by omega
   have VQ:¬k≤13:=by omega
   have VP:¬(26:Int)≤k:=by omega
   have VB:(17:Int)≤k:=by omega
   have KX:k≤25:=by omega
   rw[show Qj 102 k x=(k==8)by(show(k==14||k==8)=_;rw[n14];rfl)];go_enter func60,ntmps60;go_wp2;go_ret;exact⟨rfl,Qb _ _⟩
  by_cases cV:26≤k∧k≤32
  ·skip
   have h10:(10:Int)≤k:=by omega
   have VQ:¬k≤13:=by omega
   have VP:(26:Int)≤k:=by omega
   have GY:k≤32:=by omega
   have VB:(17:Int)≤k:=by omega
   have KX:¬k≤25:=by omega
   rw[show Qj 102 k x=(k==8)by(show(k==14||k==8)=_;rw[n14];rfl)];go_enter func60,ntmps60;go_wp2;go_ret;exact⟨rfl,Qb _ _⟩
  have h10:(10:Int)≤k:=by omega
  have VQ:¬k≤13:=by omega
  have VP:(26:Int)≤k:=by omega
  have GY:¬k≤32:=by omega
  have VB:(17:Int)≤k:=by omega
  have KX:¬k≤25:=by omega
  rw[show Qj 102 k x=(k==8)by(show(k==14||k==8)=_;rw[n14];rfl)];go_enter func60,ntmps60;go_wp2;go_ret;exact⟨rfl,Qb _ _⟩
end Tree
namespace Lex
open KL
theorem E9(d:Int):Z7 d=0↔Ka d=false:=by
 unfold Z7 Ka;by_cases h1:kd d=1
 ·simp[h1]
 ·by_cases h2:kd d=2
  ·simp[h2]
  ·simp[h1,h2]
theorem Qkv(t:List Int)(ht:ZZ t)(hl:t.length≤1000000)(w:World) :
  Calls prog 34 #[σ (strOfNums t)] w fun e w'=>e=ρ (τ (Xd t))∧Below w.heap.size w w':=by
 have ZU:Below w.heap.size w w:=Below.refl _ _;have hsz:(strOfNums t).size=t.length:=strOfNums_size t;cases ht0:t with
 |nil=>have hr:Xd []=false:=rfl;have he:(strOfNums ([]:List Int)).size=0:=rfl;rw[hr];clear hsz ht hl ht0;generalize strOfNums ([]:List Int)=s at *;go_enter func34,ntmps34;go_wp2;go_ret;exact⟨rfl,ZU⟩
 |cons c r =>
  rw[←ht0];have h0:0<t.length:=by rw[ht0];simp
  have GQ:∀W:World,(Instr.index 9 (σ (strOfNums t)) (ι κ 0)).run prog W=.ok (ι .u8 (t.getD 0 0)) W:=fun W=>Jq (P:=prog) 9 underlying9 ht (i:=0) h0 W
  have hd:=ht.getD 0;have hname:Xd t=((kd (t.getD 0 0)==1)&&decide (K8 t=t.length) && !isWord t):=by unfold Xd;rw[decide_eq_true h0];rfl
  have KE:Hid (∀i,i<t.length→∀W:World,(Instr.index 9 (σ (strOfNums t)) (ι κ (i:Int))).run prog W=.ok (ι .u8 (t.getD i 0)) W):=fun i hi W=>Jq (P:=prog) 9 underlying9 ht hi W
  have UH:=QA (Xp (t.getD 0 0) w hd.1 hd.2);have XE:Hid (∀i W,Calls prog 57 #[ι .u8 (t.getD i 0)] W fun e w'=>e=ρ (ι κ (Z7 (t.getD i 0)))∧W=w'):=fun i W=>Xp _ W (ht.getD i).1 (ht.getD i).2
  have Pn:=QA (fun W:World=>mX t ht W);have Sb:=QA ht;have zE:Hid (K8 t=lead Ka t):=rfl;have Hsz:=QA hsz;clear ht0 ht;have Lf:((t.length:Int)==0)=false:=Qy (by omega);by_cases k1:Z7 (t.getD 0 0)=1
  ·have IB:kd (t.getD 0 0)=1:=by
    unfold Z7 at k1;split at k1
    ·assumption
    ·split at k1 <;> omega
   rw[IB,show((1:Int)==1)=true from rfl,Bool.true_and]at hname;rw[k1]at UH;have RO:=QA hname;clear k1 IB hname hd;obtain⟨d0,hd0⟩:∃d,t.getD 0 0=d:=⟨_,rfl⟩;rw[hd0]at GQ UH;clear hd0;cases BU:isWord t with
   |true =>
    rw[BU]at Pn;have hr:Xd t=false:=by rw[RO.out,BU];simp
    rw[hr];clear BU hr RO XE KE Sb zE;generalize strOfNums t=s at *;generalize t.length=n at *;go_enter func34,ntmps34;go_wp2_with (first|(go_at_call 57;refine UH.out.mono ?_;rintro e w' ⟨rfl,rfl⟩)|(go_at_call 59;refine c₁ (Pn.out _) fun w' hbl=>?_));go_ret;exact⟨rfl,hbl⟩
   |false =>
    rw[BU]at Pn;have BN:Xd t=decide (K8 t=t.length):=by rw[RO.out,BU];simp
    have HR:=QA BN;clear BN;clear BU RO;obtain⟨n,hn⟩:=Mem.ZB (t.length);have Hn:=QA hn;rw[hn]at KE hsz Lf h0;obtain⟨s,hs⟩:=Mem.ZB (strOfNums t);rw[hs]at KE hsz GQ Pn⊢;have vS:n≤1000000:=by omega
    clear hs hn hl;go_enter func34,ntmps34;go_wp2_with (first|(go_at_call 57;refine UH.out.mono ?_;rintro e w' ⟨rfl,rfl⟩)|(go_at_call 59;refine c₁ (Pn.out _) fun w1 hbl=>?_));have YY:=QA hbl;clear hbl GQ UH Pn
    go_loop [3] (fun i=>∃k:Nat,k≤n∧i=ι κ k∧Hid (k≤lead Ka t)) (fun i=>n-(intOf i).toNat)
    case atStart=>exact⟨0,by omega,rfl,Nat.zero_le _⟩
    case round =>
     obtain⟨k,hk,rfl,hle⟩:=hrel;by_cases hlt:k<n
     ·have Nv:=KE.out k hlt;have HC:=QA (XE.out k w1)
      have HA:Hid (Z7 (t.getD k 0)=0→Xd t=false):=fun h=>by
       rw[HR.out,zE.out,Fx hle.out ((E9 _).1 h),Hn.out];exact decide_eq_false (by omega)
      have HB:Hid (Z7 (t.getD k 0)≠0→k+1≤lead Ka t):=fun h=>J1 hle.out (by rw[Hn.out];exact hlt) (by
       cases hl:Ka (t.getD k 0)
       ·exact absurd ((E9 _).2 hl) h
       ·rfl)
      have hlt':(k:Int)<n:=by omega
      clear hle KE XE;generalize t.getD k 0=d at *;generalize Z7 d=q at *;by_cases h0':q=0
      ·subst h0';have PE:=QA (HA.out rfl);clear HA HB;go_wp2_with (go_at_call 57;refine HC.out.mono ?_;rintro e w' ⟨rfl,rfl⟩);go_ret;rw[PE.out];exact⟨rfl,YY.out⟩
      ·have QJ:=QA (HB.out h0');have hq:=Qy h0';clear HA HB h0';go_wp2_with (go_at_call 57;refine HC.out.mono ?_;rintro e w' ⟨rfl,rfl⟩)
       go_round
       case rel=>exact⟨k+1,by omega,by go_num,QJ.out⟩
       case measure=>simp[intOf];omega
     ·have HE:Hid (Xd t=true):=by
       rw[HR.out,zE.out,qZ hle.out (by rw[Hn.out];omega),Hn.out];exact decide_eq_true (by omega)
      have hnl:¬(k:Int)<n:=by omega
      clear hle hlt KE XE;go_wp2;go_ret;rw[HE.out];exact⟨rfl,YY.out⟩
  ·have IB:kd (t.getD 0 0)≠1:=fun e=>k1 (by unfold Z7;rw[if_pos e])
   rw[Qy IB]at hname;have hr:Xd t=false:=by rw[hname];rfl
   rw[hr];have hq:(Z7 (t.getD 0 0) != 1)=true:=by rw[bne_iff_ne];exact k1
   clear hname hr k1 IB hd XE KE Pn Sb zE;generalize t.getD 0 0=d at *;generalize Z7 d=q at *;generalize strOfNums t=s at *;generalize t.length=n at *;go_enter func34,ntmps34;go_wp2_with (go_at_call 57;refine UH.out.mono ?_;rintro e w' ⟨rfl,rfl⟩);go_ret;exact⟨rfl,ZU⟩
theorem Qgs(k:Int)(t:List Int)(ht:ZZ t)(at_:Int)(f:Bool)(w:World) :
  Calls prog 33 #[ξ #[ι κ k,σ (strOfNums t),ι κ at_,τ f]] w fun e w'=>e=ρ (τ (closes k t))∧Below w.heap.size w w':=by
 have hb1:Below w.heap.size w (w.alloc (θ #[ι κ k,σ (strOfNums t),ι κ at_,τ f] 51)):=(Below.refl _ _).alloc (Nat.le_refl _) _;have HB:=QA hb1;have GA:Hid (∀w',Below (w.alloc (θ #[ι κ k,σ (strOfNums t),ι κ at_,τ f] 51)).heap.size (w.alloc (θ #[ι κ k,σ (strOfNums t),ι κ at_,τ f] 51)) w'→Below w.heap.size w w'):=fun w' hw=>hb1.trans (hw.mono (by simp))
 have Wx:Hid (∀w',Below (w.alloc (θ #[ι κ k,σ (strOfNums t),ι κ at_,τ f] 51)).heap.size (w.alloc (θ #[ι κ k,σ (strOfNums t),ι κ at_,τ f] 51)) w'→w'.cell? ⟨w.heap.size,1,none⟩=some (σ (strOfNums t))):=fun w' hw=>by
  rw[hw.cell (p:=⟨w.heap.size,1,none⟩) (by simp),World.cell?_alloc_at _ _ _ _ rfl];rfl
 clear hb1;by_cases k1:k=1
 ·subst k1;have HW:=QA (fun w:World=>mX t ht w);have hcl:closes 1 t=(!isWord t||decide (t=Ai)||decide (t=Ag)||decide (t=Ah)):=rfl;by_cases hw:isWord t=true
  ·rw[hw]at HW hcl;by_cases c0:t=[114,101,116,117,114,110]
   ·have b0:((strOfNums t).toList==[114,101,116,117,114,110])=true:=Zm (u:=[114,101,116,117,114,110]) c0;rw[show closes 1 t=true from by rw[c0];decide +kernel];clear hcl hw ht c0;generalize strOfNums t=s at *;go_enter func33,ntmps33;go_wp2_with (go_at_call 59;refine c₁ (HW.out _) fun w' hbl=>?_;have WN:=Wx.out _ hbl);go_ret;exact⟨rfl,GA.out _ hbl⟩
   have b0:((strOfNums t).toList==[114,101,116,117,114,110])=false:=Vb ht (u:=[114,101,116,117,114,110]) (by decide) c0;by_cases c1:t=[98,114,101,97,107]
   ·have b1:((strOfNums t).toList==[98,114,101,97,107])=true:=Zm (u:=[98,114,101,97,107]) c1;rw[show closes 1 t=true from by rw[c1];decide +kernel];clear hcl hw ht c0 c1;generalize strOfNums t=s at *;go_enter func33,ntmps33;go_wp2_with (go_at_call 59;refine c₁ (HW.out _) fun w' hbl=>?_;have WN:=Wx.out _ hbl);go_ret;exact⟨rfl,GA.out _ hbl⟩
   have b1:((strOfNums t).toList==[98,114,101,97,107])=false:=Vb ht (u:=[98,114,101,97,107]) (by decide) c1;by_cases c2:t=[99,111,110,116,105,110,117,101]
   ·have b2:((strOfNums t).toList==[99,111,110,116,105,110,117,101])=true:=Zm (u:=[99,111,110,116,105,110,117,101]) c2;rw[show closes 1 t=true from by rw[c2];decide +kernel];clear hcl hw ht c0 c1 c2;generalize strOfNums t=s at *;go_enter func33,ntmps33;go_wp2_with (go_at_call 59;refine c₁ (HW.out _) fun w' hbl=>?_;have WN:=Wx.out _ hbl);go_ret;exact⟨rfl,GA.out _ hbl⟩
   have b2:((strOfNums t).toList==[99,111,110,116,105,110,117,101])=false:=Vb ht (u:=[99,111,110,116,105,110,117,101]) (by decide) c2;have hc:closes 1 t=false:=by rw[hcl];unfold Ai Ag Ah;simp[c0,c1,c2]
   rw[hc];clear hc hcl hw c0 c1 c2 ht;generalize strOfNums t=s at *;go_enter func33,ntmps33;go_wp2_with (go_at_call 59;refine c₁ (HW.out _) fun w' hbl=>?_;have WN:=Wx.out _ hbl);go_ret;exact⟨rfl,GA.out _ hbl⟩
  ·have hw':isWord t=false:=by simpa using hw
   rw[hw']at HW hcl;have hc:closes 1 t=true:=by rw[hcl];simp
   rw[hc];clear hc hcl hw hw' ht;generalize strOfNums t=s at *;go_enter func33,ntmps33;go_wp2_with (go_at_call 59;refine c₁ (HW.out _) fun w' hbl=>?_;have WN:=Wx.out _ hbl);go_ret;exact⟨rfl,GA.out _ hbl⟩
 have q1:=Qy k1;by_cases k4:k=4
 ·subst k4;clear q1 k1;by_cases c0:t=[41]
  ·have b0:((strOfNums t).toList==[41])=true:=Zm (u:=[41]) c0;rw[show closes 4 t=true from by rw[c0];decide +kernel];clear ht c0;generalize strOfNums t=s at *;go_enter func33,ntmps33;go_wp2;go_ret;exact⟨rfl,HB.out⟩
  have b0:((strOfNums t).toList==[41])=false:=Vb ht (u:=[41]) (by decide) c0;by_cases c1:t=[93]
  ·have b1:((strOfNums t).toList==[93])=true:=Zm (u:=[93]) c1;rw[show closes 4 t=true from by rw[c1];decide +kernel];clear ht c0 c1;generalize strOfNums t=s at *;go_enter func33,ntmps33;go_wp2;go_ret;exact⟨rfl,HB.out⟩
  have b1:((strOfNums t).toList==[93])=false:=Vb ht (u:=[93]) (by decide) c1;by_cases c2:t=[125]
  ·have b2:((strOfNums t).toList==[125])=true:=Zm (u:=[125]) c2;rw[show closes 4 t=true from by rw[c2];decide +kernel];clear ht c0 c1 c2;generalize strOfNums t=s at *;go_enter func33,ntmps33;go_wp2;go_ret;exact⟨rfl,HB.out⟩
  have b2:((strOfNums t).toList==[125])=false:=Vb ht (u:=[125]) (by decide) c2;by_cases c3:t=[43,43]
  ·have b3:((strOfNums t).toList==[43,43])=true:=Zm (u:=[43,43]) c3;rw[show closes 4 t=true from by rw[c3];decide +kernel];clear ht c0 c1 c2 c3;generalize strOfNums t=s at *;go_enter func33,ntmps33;go_wp2;go_ret;exact⟨rfl,HB.out⟩
  have b3:((strOfNums t).toList==[43,43])=false:=Vb ht (u:=[43,43]) (by decide) c3;by_cases c4:t=[45,45]
  ·have b4:((strOfNums t).toList==[45,45])=true:=Zm (u:=[45,45]) c4;rw[show closes 4 t=true from by rw[c4];decide +kernel];clear ht c0 c1 c2 c3 c4;generalize strOfNums t=s at *;go_enter func33,ntmps33;go_wp2;go_ret;exact⟨rfl,HB.out⟩
  have b4:((strOfNums t).toList==[45,45])=false:=Vb ht (u:=[45,45]) (by decide) c4;have hc:closes 4 t=false:=by show decide (t∈Ax)=false;unfold Ax;simp[c0,c1,c2,c3,c4]
  rw[hc];clear hc ht c0 c1 c2 c3 c4;generalize strOfNums t=s at *;go_enter func33,ntmps33;go_wp2;go_ret;exact⟨rfl,HB.out⟩
 have q4:=Qy k4;by_cases k2:k=2
 ·subst k2;rw[show closes 2 t=true from rfl];clear ht;generalize strOfNums t=s at *;go_enter func33,ntmps33;go_wp2;go_ret;exact⟨rfl,HB.out⟩
 by_cases k3:k=3
 ·subst k3;rw[show closes 3 t=true from rfl];clear ht;generalize strOfNums t=s at *;go_enter func33,ntmps33;go_wp2;go_ret;exact⟨rfl,HB.out⟩
 have q2:=Qy k2;have q3:=Qy k3;have hc:closes k t=false:=by unfold closes;rw[if_neg (by omega),if_neg k1,if_neg k4]
 rw[hc];clear hc k1 k2 k3 k4 ht;generalize strOfNums t=s at *;go_enter func33,ntmps33;go_wp2;go_ret;exact⟨rfl,HB.out⟩
