import Derived.Test.YtaiihnniblibaaaGreatDoorChecked
import Derived.WalkKit
import Derived.ProofKit
import Derived.OpenShut
import Derived.Below
import Derived.Lib.Hide
import Derived.Laws.BytesArg
import Derived.Outline
import Derived.Deep.QuietTactic
import Derived.BigQuiet
import Derived.WalkMore
import Derived.OneCell
import Derived.OwnWalk
import Derived.Maps.AppendAt
set_option maxHeartbeats 4000000
set_option maxRecDepth 100000
set_option linter.unusedVariables false
open Go.Proofs.Tryz Go.ChangeShapes Go.WideShapes Go.ChangeAt Go.RowKit
open Go.Lib renaming hid→QA
open _root_.Nat renaming le_refl→QH,le_trans→VJ
open _root_.List renaming length_cons→VX,length_append→JF,append_assoc→KA
open Go.Value renaming string→σ,int→ι,slice→ς
open Go.IntKind renaming i64→κ
open Go.Obj renaming cells→θ
open Go.Ending renaming returned→ρ
namespace Go.Proofs.YtaiihnniblibaaaGreatDoor
namespace KL
def Vh(n:Int):Nat :=
  if n<0 then 0 else if n<128 then 1 else if n<2048 then 2 else if 55296≤n∧n<57344 then 0 else if n<65536 then 3 else if n<1114112 then 4 else 0
def enc(n:Int):List Int :=
  if Vh n=1 then[n]else if Vh n=2 then[192+n/64,128+n%64]else if Vh n=3 then[224+n/4096,128+n/64%64,128+n%64]
  else if Vh n=4 then[240+n/262144,128+n/4096%64,128+n/64%64,128+n%64]else[]
def Jo(c:Int):Nat:=if c<128 then 1 else if c<192 then 0 else if c<224 then 2 else if c<240 then 3 else if c<248 then 4 else 0
def Ko(c:Int):Int:=if c<128 then c else if c<192 then 0 else if c<224 then c-192 else if c<240 then c-224 else if c<248 then c-240 else 0
def G7(c:Int):Bool:=decide (128≤c∧c<192)
def acc(s:Int):List Int→Int
  |[]=>s
  |c::r=>acc (s*64+c%64) r
def VS:List Int→Int×Nat
  |[]=>(-1,0)
  |c::r =>
   if Jo c=0∨r.length+1<Jo c then(-1,0)
   else if(r.take (Jo c-1)).all G7=false then(-1,0)
   else if Vh (acc (Ko c) (r.take (Jo c-1)))=Jo c then(acc (Ko c) (r.take (Jo c-1)),Jo c)else(-1,0)
theorem xq(c:Int)(r:List Int):VS (c::r) =
    if Jo c=0∨r.length+1<Jo c then(-1,0)
    else if(r.take (Jo c-1)).all G7=false then(-1,0)
    else if Vh (acc (Ko c) (r.take (Jo c-1)))=Jo c then(acc (Ko c) (r.take (Jo c-1)),Jo c)else(-1,0):=rfl
def ZZ(l:List Int):Prop:=∀x∈l,0≤x∧x<256
theorem ZZ.take{l:List Int}(h:ZZ l)(n:Nat):ZZ (l.take n):=fun x hx=>h x (List.mem_of_mem_take hx)
theorem ZZ.drop{l:List Int}(h:ZZ l)(n:Nat):ZZ (l.drop n):=fun x hx=>h x (List.mem_of_mem_drop hx)
theorem ZZ.append{l m:List Int}(h:ZZ l)(k:ZZ m):ZZ (l++m):=fun x hx=>by
  rcases List.mem_append.1 hx with h' |h'
  ·exact h x h'
  ·exact k x h'
theorem ZZ.nil:ZZ []:=fun x hx=>by cases hx
theorem ZZ.getD{l:List Int}(h:ZZ l)(i:Nat):0≤l.getD i 0∧l.getD i 0<256:=by
  by_cases hi:i<l.length
  ·have e:l.getD i 0=l[i]:=by simp[List.getD,hi]
   rw[e];exact h _ (List.getElem_mem hi)
  ·have e:l.getD i 0=0:=by simp[List.getD,List.getElem?_eq_none (show l.length≤i by omega)]
   rw[e];omega
theorem pE(n:Int):Vh n≤4:=by unfold Vh;repeat' split
                             all_goals omega
theorem xf{n:Int}(h:Vh n=1):0≤n∧n<128:=by
  unfold Vh at h;repeat' split at h
  all_goals omega
theorem za{n:Int}(h:Vh n=2):128≤n∧n<2048:=by
  unfold Vh at h;repeat' split at h
  all_goals omega
theorem U0{n:Int}(h:Vh n=3):2048≤n∧n<65536∧(n<55296∨57344≤n):=by
  unfold Vh at h;repeat' split at h
  all_goals omega
theorem zt{n:Int}(h:Vh n=4):65536≤n∧n<1114112:=by
  unfold Vh at h;repeat' split at h
  all_goals omega
theorem Qqq{n:Int}(h:Vh n=0):n<0∨(55296≤n∧n<57344)∨1114112≤n:=by
  unfold Vh at h;repeat' split at h
  all_goals omega
theorem Xc(n:Int):Vh n=0∨Vh n=1∨Vh n=2∨Vh n=3∨Vh n=4:=by have:=pE n;omega
theorem Eu{n:Int}(h:0≤n)(h':n<128):Vh n=1:=by
  unfold Vh;rw[if_neg (by omega),if_pos h']
theorem enc1{n:Int}(h:Vh n=1):enc n=[n]:=by unfold enc;rw[if_pos h]
theorem enc2{n:Int}(h:Vh n=2):enc n=[192+n/64,128+n%64]:=by unfold enc;rw[if_neg (by omega),if_pos h]
theorem enc3{n:Int}(h:Vh n=3):enc n=[224+n/4096,128+n/64%64,128+n%64]:=by unfold enc;rw[if_neg (by omega),if_neg (by omega),if_pos h]
theorem enc4{n:Int}(h:Vh n=4):enc n=[240+n/262144,128+n/4096%64,128+n/64%64,128+n%64]:=by
  unfold enc;rw[if_neg (by omega),if_neg (by omega),if_neg (by omega),if_pos h]
theorem cC{n:Int}(h:Vh n=0):enc n=[]:=by unfold enc;rw[if_neg (by omega),if_neg (by omega),if_neg (by omega),if_neg (by omega)]
theorem Jf(n:Int):(enc n).length=Vh n:=by
  rcases Xc n with h|h|h|h|h
  ·rw[cC h,h];rfl
  ·rw[enc1 h,h];rfl
  ·rw[enc2 h,h];rfl
  ·rw[enc3 h,h];rfl
  ·rw[enc4 h,h];rfl
theorem kI(n:Int):ZZ (enc n):=by
  intro x hx;rcases Xc n with h|h|h|h|h
  ·rw[cC h]at hx;cases hx
  ·rw[enc1 h]at hx;have:=xf h;simp at hx;omega
  ·rw[enc2 h]at hx;have:=za h;simp at hx;omega
  ·rw[enc3 h]at hx;have:=U0 h;simp at hx;omega
  ·rw[enc4 h]at hx;have:=zt h;simp at hx;omega
theorem rf(c:Int):Jo c≤4:=by unfold Jo;repeat' split
                             all_goals omega
theorem Bi{k:Int}(hk:Vh k≠0)(r:List Int):VS (enc k++r)=(k,Vh k):=by
  rcases Xc k with h|h|h|h|h
  ·exact absurd h hk
  ·rw[enc1 h,h];have hb:=xf h;have e1:Jo k=1:=by unfold Jo;rw[if_pos hb.2]
   have e2:Ko k=k:=by unfold Ko;rw[if_pos hb.2]
   simp[VS,e1,e2,acc,h]
  ·rw[enc2 h,h];have hb:=za h;have e1:Jo (192+k/64)=2:=by unfold Jo;rw[if_neg (by omega),if_neg (by omega),if_pos (by omega)]
   have e2:Ko (192+k/64)=k/64:=by unfold Ko;rw[if_neg (by omega),if_neg (by omega),if_pos (by omega)];omega
   have e3:G7 (128+k%64)=true:=by unfold G7;apply decide_eq_true;omega
   have e4:acc (k/64) [128+k%64]=k:=by simp only[acc];omega
   simp[VS,e1,e2,e3,e4,h]
  ·rw[enc3 h,h];have hb:=U0 h;have e1:Jo (224+k/4096)=3:=by unfold Jo;rw[if_neg (by omega),if_neg (by omega),if_neg (by omega),if_pos (by omega)]
   have e2:Ko (224+k/4096)=k/4096:=by unfold Ko;rw[if_neg (by omega),if_neg (by omega),if_neg (by omega),if_pos (by omega)];omega
   have e3:G7 (128+k%64)=true:=by unfold G7;apply decide_eq_true;omega
   have e3':G7 (128+k/64%64)=true:=by unfold G7;apply decide_eq_true;omega
   have e4:acc (k/4096) [128+k/64%64,128+k%64]=k:=by simp only[acc];omega
   simp[VS,e1,e2,e3,e3',e4,h]
  ·rw[enc4 h,h];have hb:=zt h;have e1:Jo (240+k/262144)=4:=by unfold Jo;rw[if_neg (by omega),if_neg (by omega),if_neg (by omega),if_neg (by omega),if_pos (by omega)]
   have e2:Ko (240+k/262144)=k/262144:=by unfold Ko;rw[if_neg (by omega),if_neg (by omega),if_neg (by omega),if_neg (by omega),if_pos (by omega)];omega
   have e3:G7 (128+k%64)=true:=by unfold G7;apply decide_eq_true;omega
   have e3':G7 (128+k/64%64)=true:=by unfold G7;apply decide_eq_true;omega
   have jy:G7 (128+k/4096%64)=true:=by unfold G7;apply decide_eq_true;omega
   have e4:acc (k/262144) [128+k/4096%64,128+k/64%64,128+k%64]=k:=by simp only[acc];omega
   simp[VS,e1,e2,e3,e3',jy,e4,h]
theorem Ya(c:Int):(Jo c=0∧(128≤c∧c<192∨248≤c))∨(Jo c=1∧Ko c=c∧c<128)∨(Jo c=2∧Ko c=c-192∧192≤c∧c<224)∨
    (Jo c=3∧Ko c=c-224∧224≤c∧c<240)∨(Jo c=4∧Ko c=c-240∧240≤c∧c<248):=by
  by_cases h1:c<128
  ·exact .inr (.inl ⟨by unfold Jo;rw[if_pos h1],by unfold Ko;rw[if_pos h1],h1⟩)
  by_cases h2:c<192
  ·exact .inl ⟨by unfold Jo;rw[if_neg h1,if_pos h2],.inl ⟨by omega,h2⟩⟩
  by_cases h3:c<224
  ·exact .inr (.inr (.inl ⟨by unfold Jo;rw[if_neg h1,if_neg h2,if_pos h3],by unfold Ko;rw[if_neg h1,if_neg h2,if_pos h3],by omega,h3⟩))
  by_cases h4:c<240
  ·exact .inr (.inr (.inr (.inl ⟨by unfold Jo;rw[if_neg h1,if_neg h2,if_neg h3,if_pos h4],by unfold Ko;rw[if_neg h1,if_neg h2,if_neg h3,if_pos h4],by omega,h4⟩)))
  by_cases h5:c<248
  ·exact .inr (.inr (.inr (.inr ⟨by unfold Jo;rw[if_neg h1,if_neg h2,if_neg h3,if_neg h4,if_pos h5],by unfold Ko;rw[if_neg h1,if_neg h2,if_neg h3,if_neg h4,if_pos h5],by omega,h5⟩)))
  ·exact .inl ⟨by unfold Jo;rw[if_neg h1,if_neg h2,if_neg h3,if_neg h4,if_neg h5],.inr (by omega)⟩
theorem xb{c:Int}:G7 c=true↔128≤c∧c<192:=by unfold G7;simp
theorem Er{l:List Int}(hl:ZZ l){k:Int}{n:Nat}(h:VS l=(k,n))(hn:n≠0):Vh k=n∧l=enc k++l.drop n:=by
  match l,hl,h with
  |[],_,h=>simp[VS]at h;omega
  |c::r,hl,h =>
   have hc:=hl c (by simp);rw[xq]at h;split at h
   ·simp at h;omega
   ·rename_i h1
    split at h
    ·simp at h;omega
    ·rename_i h2
     split at h
     ·rename_i h3
      simp only[Prod.mk.injEq]at h;obtain⟨rfl,rfl⟩:=h;refine⟨h3,?_⟩;rcases Ya c with⟨e,_⟩|⟨e,b,_⟩|⟨e,b,_⟩|⟨e,b,_⟩|⟨e,b,_⟩
      ·omega
      ·rw[e,b]at h3⊢;simp only[Nat.sub_self,List.take_zero,acc]at h3⊢;rw[enc1 h3];rfl
      ·rw[e,b]at h3⊢;rw[e]at h1 h2
       match r,h1,h2,h3 with
       |[],h1,_,_=>simp at h1
       |d::r',_,h2,h3=>simp[acc,xb]at h2 h3⊢;rw[enc2 h3];simp;omega
      ·rw[e,b]at h3⊢;rw[e]at h1 h2
       match r,h1,h2,h3 with
       |[],h1,_,_=>simp at h1
       |[_],h1,_,_=>simp at h1
       |d::d'::r',_,h2,h3=>simp[acc,xb]at h2 h3⊢;rw[enc3 h3];simp;omega
      ·rw[e,b]at h3⊢;rw[e]at h1 h2
       match r,h1,h2,h3 with
       |[],h1,_,_=>simp at h1
       |[_],h1,_,_=>simp at h1
       |[_,_],h1,_,_=>simp at h1
       |d::d'::d''::r',_,h2,h3=>simp[acc,xb]at h2 h3⊢;rw[enc4 h3];simp;omega
     ·simp at h;omega
theorem xt{l:List Int}(h:(VS l).2=0):VS l=(-1,0):=by
  match l,h with
  |[],_=>rfl
  |c::r,h =>
   rw[xq]at h⊢;split
   ·rfl
   ·rename_i h1
    rw[if_neg h1]at h;split
    ·rfl
    ·rename_i h2
     rw[if_neg h2]at h;split
     ·rename_i h3
      rw[if_pos h3]at h;simp at h;omega
     ·rfl
theorem kB{l:List Int}(hl:ZZ l):(VS l).2≤l.length:=by
  rcases Nat.eq_zero_or_pos (VS l).2 with h|h
  ·omega
  ·have:=Er (k:=(VS l).1) (n:=(VS l).2) hl rfl (by omega);have h2:=congrArg List.length this.2;rw[JF,Jf,this.1]at h2;omega
def md(n:Nat)(c:Int):Int:=if n=2 then c%32 else if n=3 then c%16 else if n=4 then c%8 else c
def Rc(n:Nat)(l:List Int):Int:=acc (md n (l.getD 0 0)) ((l.drop 1).take (n-1))
def hit(n:Nat)(l:List Int):Prop:=Vh (Rc n l)≠0∧enc (Rc n l)=l.take n
theorem oV{l:List Int}{n:Nat}(hn:n≤l.length)(h:hit n l):VS l=(Rc n l,n):=by
  have e:l=enc (Rc n l)++l.drop n:=by rw[h.2,List.take_append_drop]
  have hlen:Vh (Rc n l)=n:=by rw[←Jf,h.2,List.length_take];omega
  have:=Bi h.1 (l.drop n);rw[←e,hlen]at this;exact this
theorem wR{l:List Int}(hl:ZZ l){k:Int}{n:Nat}(h:VS l=(k,n))(hn:n≠0):1≤n∧n≤4∧n≤l.length∧hit n l:=by
  obtain⟨h1,h2⟩:=Er hl h hn;have h4:=pE k;have h5:=kB hl;rw[h]at h5;have hk:Rc n l=k:=by
    generalize l.drop n=r at h2;subst h2;rcases Xc k with e|e|e|e|e
    ·omega
    ·obtain rfl:n=1:=by omega
     rw[enc1 e];simp[Rc,md,acc]
    ·obtain rfl:n=2:=by omega
     have:=za e;rw[enc2 e];simp[Rc,md,acc];omega
    ·obtain rfl:n=3:=by omega
     have:=U0 e;rw[enc3 e];simp[Rc,md,acc];omega
    ·obtain rfl:n=4:=by omega
     have:=zt e;rw[enc4 e];simp[Rc,md,acc];omega
  refine⟨by omega,by omega,h5,?_⟩;unfold hit;rw[hk];refine⟨by omega,?_⟩;have e:l.take n=(enc k++l.drop n).take n:=by rw[←h2]
  rw[e,List.take_append_of_le_length (by rw[Jf];omega),List.take_of_length_le (by rw[Jf];omega)]
theorem Q1f{l:List Int}(hl:ZZ l)(h:∀n,1≤n→n≤4→n≤l.length→¬hit n l):VS l=(-1,0):=by
  rcases Nat.eq_zero_or_pos (VS l).2 with h0|h0
  ·exact xt h0
  ·obtain⟨h1,h2,h3,h4⟩:=wR (k:=(VS l).1) (n:=(VS l).2) hl rfl (by omega);exact absurd h4 (h _ h1 h2 h3)
theorem Az(l:List Int):∀(s B:Int),0≤s→s<B→0≤acc s l∧acc s l<B*64 ^ l.length:=by
  induction l with
  |nil=>intro s B h0 h1;simp only[acc,List.length_nil,Int.pow_zero];omega
  |cons c r ih =>
   intro s B h0 h1;have:=ih (s*64+c%64) (B*64) (by omega) (by omega);refine⟨this.1,?_⟩;have e:B*64*64 ^ r.length=B*64 ^ (r.length+1):=by rw[Int.mul_assoc,Int.pow_succ,Int.mul_comm 64]
   simp only[acc,VX];rw[←e];exact this.2
theorem sw(l:List Int)(c:Int):∀s,acc s (l++[c])=acc s l*64+c%64:=by
  induction l with
  |nil=>intro s;rfl
  |cons d r ih=>intro s;exact ih _
def VC:List Int→List Int
  |[]=>[]
  |k::r=>enc k++VC r
def YU(l:List Int):Prop:=∀k∈l,Vh k≠0
theorem cw(a b:List Int):VC (a++b)=VC a++VC b:=by
  induction a with
  |nil=>rfl
  |cons k r ih=>simp only[List.cons_append,VC,ih,KA]
theorem Qq8(a:List Int)(k:Int):VC (a++[k])=VC a++enc k:=by rw[cw];simp[VC]
theorem xE:∀l,ZZ (VC l)
  |[]=>ZZ.nil
  |k::r=>(kI k).append (xE r)
theorem YU.nil:YU []:=fun _ h=>by cases h
theorem YU.snoc{l:List Int}(h:YU l){k:Int}(hk:Vh k≠0):YU (l++[k]):=fun x hx=>by
  rcases List.mem_append.1 hx with h' |h'
  ·exact h x h'
  ·simp at h';subst h';exact hk
def SD:Nat→List Int→List Int×Nat
  |0,_=>([],0)
  |f+1,l=>if(VS l).2=0 then([],0)else((VS l).1::(SD f (l.drop (VS l).2)).1,(VS l).2+(SD f (l.drop (VS l).2)).2)
def LA(l:List Int):List Int:=(SD l.length l).1
def bad(l:List Int):Nat:=(SD l.length l).2
theorem sZ:∀(f:Nat)(l:List Int),ZZ l→l.length≤f→YU (SD f l).1∧(SD f l).2≤l.length∧l=VC (SD f l).1++l.drop (SD f l).2∧(VC (SD f l).1).length=(SD f l).2∧VS (l.drop (SD f l).2)=(-1,0)
  |0,l,_,hf=>by
   have:l=[]:=List.eq_nil_of_length_eq_zero (by omega);subst this;exact⟨YU.nil,QH _,rfl,rfl,rfl⟩
  |f+1,l,hl,hf=>by
   unfold SD;by_cases h0:(VS l).2=0
   ·rw[if_pos h0];exact⟨YU.nil,Nat.zero_le _,rfl,rfl,xt h0⟩
   ·rw[if_neg h0];have hs:=Er (k:=(VS l).1) (n:=(VS l).2) hl rfl h0;have hle:=kB hl;have hlen:(l.drop (VS l).2).length≤f:=by rw[List.length_drop];omega
    obtain⟨a1,a2,a3,a4,a5⟩:=sZ f (l.drop (VS l).2) (hl.drop _) hlen;rw[List.drop_drop]at a5;rw[List.drop_drop]at a3;rw[List.length_drop]at a2;generalize hr:SD f (l.drop (VS l).2)=q at *;generalize hq:VS l=p at *;refine⟨?_,by simp only;omega,?_,?_,?_⟩
    ·intro k hk;rcases List.mem_cons.1 hk with h|h
     ·subst h;omega
     ·exact a1 k h
    ·simp only[VC,KA];rw[←a3];exact hs.2
    ·simp only[VC,JF,Jf];omega
    ·exact a5
theorem Ui{l:List Int}(hl:ZZ l):YU (LA l)∧bad l≤l.length∧l=VC (LA l)++l.drop (bad l)∧(VC (LA l)).length=bad l∧VS (l.drop (bad l))=(-1,0) :=
  sZ l.length l hl (QH _)
theorem cS:∀(a b r s:List Int),YU a→YU b→VC a++r=VC b++s→(VS r).2=0→(VS s).2=0→a=b∧r=s
  |[],[],r,s,_,_,h,_,_=>⟨rfl,h⟩
  |[],k::b,r,s,_,hb,h,hr,_=>by
   have hk:=hb k (by simp);simp only[VC,List.nil_append,KA]at h;rw[h,Bi hk]at hr;exact absurd hr hk
  |k::a,[],r,s,ha,_,h,_,hs=>by
   have hk:=ha k (by simp);simp only[VC,List.nil_append,KA]at h;rw[←h,Bi hk]at hs;exact absurd hs hk
  |k::a,m::b,r,s,ha,hb,h,hr,hs=>by
   have hk:=ha k (by simp);have hm:=hb m (by simp);simp only[VC,KA]at h;have e1:=Bi hk (VC a++r);have e2:=Bi hm (VC b++s);rw[h,e2]at e1;obtain⟨rfl,_⟩:m=k∧_:=by simpa using e1
   have h':=List.append_cancel_left h;obtain⟨rfl,rfl⟩:=cS a b r s (fun x hx=>ha x (by simp[hx])) (fun x hx=>hb x (by simp[hx])) h' hr hs;exact⟨rfl,rfl⟩
theorem AA{l a:List Int}(hl:ZZ l){n:Nat}(ha:YU a)(hn:n≤l.length)(h:VC a=l.take n)(h0:(VS (l.drop n)).2=0):a=LA l∧n=bad l:=by
  obtain⟨b1,b2,b3,b4,b5⟩:=Ui hl;have e:VC a++l.drop n=VC (LA l)++l.drop (bad l):=by rw[h,List.take_append_drop,←b3]
  obtain⟨h1,h2⟩:=cS a (LA l) _ _ ha b1 e h0 (by rw[b5]);refine⟨h1,?_⟩;rw[←b4,←h1,h,List.length_take];omega
theorem qy{l:List Int}(hl:ZZ l):bad l≤l.length:=(Ui hl).2.1
theorem sH{l:List Int}(hl:ZZ l):VC (LA l)=l.take (bad l):=by
  obtain⟨b1,b2,b3,b4,b5⟩:=Ui hl;have e:l.take (bad l)=(VC (LA l)++l.drop (bad l)).take (bad l):=by rw[←b3]
  rw[e,List.take_append_of_le_length (by omega),List.take_of_length_le (by omega)]
theorem Qpj{a:List Int}(ha:YU a):LA (VC a)=a∧bad (VC a)=(VC a).length:=by
  have:=AA (l:=VC a) (a:=a) (n:=(VC a).length) (xE a) ha (QH _) (by rw[List.take_length]) (by rw[List.drop_length];rfl);exact⟨this.1.symm,this.2.symm⟩
def RB(w:World)(B:Nat)(A:Option Addr)(xs:List Int):Prop :=
  ZZ xs∧(xs=[]∨∃b off,A=some ⟨b,off,none⟩∧b<B∧∀i,i<xs.length→w.cell? ⟨b,off+i,none⟩=some (ι .u8 (xs.getD i 0)))
section
variable {w w':World}{B B':Nat}{A:Option Addr}{xs:List Int}
theorem RB.Ha(h:RB w B A xs):ZZ xs:=h.1
theorem RB.keep(h:RB w B A xs)(hk:∀p:Addr,p.block<B→w'.cell? p=w.cell? p):RB w' B A xs :=
  ⟨h.1,by
    rcases h.2 with e|⟨b,off,e,hb,hc⟩
    ·exact .inl e
    ·exact .inr ⟨b,off,e,hb,fun i hi=>(hk _ hb).trans (hc i hi)⟩⟩
theorem RB.more(h:RB w B A xs)(hB:B≤B'):RB w B' A xs :=
  ⟨h.1,by
    rcases h.2 with e|⟨b,off,e,hb,hc⟩
    ·exact .inl e
    ·exact .inr ⟨b,off,e,by omega,hc⟩⟩
theorem RB.below(h:RB w B A xs){B0:Nat}(hb:Below B0 w w')(hB:B≤B0):RB w' B A xs:=h.keep fun _ hp=>hb.cell (by omega)
theorem RB.nil(w:World)(B:Nat)(A:Option Addr):RB w B A []:=⟨ZZ.nil,.inl rfl⟩
theorem RB.take(h:RB w B A xs)(n:Nat):RB w B A (xs.take n) :=
  ⟨h.1.take n,by
    rcases h.2 with e|⟨b,off,e,hb,hc⟩
    ·exact .inl (by rw[e];simp)
    ·refine .inr ⟨b,off,e,hb,fun i hi=>?_⟩;rw[List.length_take]at hi;rw[hc i (by omega)];simp[List.getD,show i<n by omega]⟩
theorem RB.drop(h:RB w B A xs){k cap:Nat}(hk:k≤xs.length)(hc:xs.length≤cap) :
    RB w B (if cap=k then A else A.map (·.add k)) (xs.drop k) :=
  ⟨h.1.drop k,by
    by_cases hz:xs.length=k
    ·exact .inl (by rw[←hz,List.drop_length])
    ·rcases h.2 with e|⟨b,off,e,hb,hcell⟩
     ·rw[e]at hz hk;simp at hz hk;omega
     ·rw[if_neg (by omega)];refine .inr ⟨b,off+k,?_,hb,fun i hi=>?_⟩
      ·rw[e];simp only[Option.map_some,Addr.add];split <;> simp_all
      ·rw[List.length_drop]at hi;rw[Nat.add_assoc,hcell (k+i) (by omega)];simp[List.getD,List.getElem?_drop]⟩
theorem RB.cell(h:RB w B A xs)(hn:xs≠[]):∃b off,A=some ⟨b,off,none⟩∧b<B∧∀i,i<xs.length→w.cell? ⟨b,off+i,none⟩=some (ι .u8 (xs.getD i 0)):=by
  rcases h.2 with e|h'
  ·exact absurd e hn
  ·exact h'
end
theorem zk{P:Program}(w:World)(src dst e:TypeId)(hs:P.underlying src=some (.slice e))(he:P.underlying e=some (.int .u8))(hd:P.underlying dst=some .string)
    {B:Nat} {A:Option Addr} {xs:List Int} (h:RB w B A xs) (c:Nat):(convert src dst (ς A xs.length c)).run P w=.ok (σ (strOfNums xs)) w:=by
  rcases h.2 with e0|⟨b,off,e0,_,hc⟩
  ·subst e0;rcases A with _|a
   ·exact run_convert_bytes_nil w src e hs he _ c dst hd
   ·rw[run_convert_bytes_string w src dst e _ _ c hs he hd];rw[run_bytesToString w a _ c [] (by simp[loadCells,loadCellsFrom])];rfl
  ·subst e0;exact run_convert_bytes_arg w src e hs he b off _ c xs rfl hc dst hd
theorem Au(n:Nat)(h:n<256):(UInt8.ofNat n).toNat=n:=by simp;omega
theorem Vz{a b:List Int}(ha:ZZ a)(hb:ZZ b)(h:strOfNums a=strOfNums b):a=b:=by
  have h1:a.map (fun n=>UInt8.ofNat n.toNat)=b.map (fun n=>UInt8.ofNat n.toNat):=by
    have:=congrArg (fun s:ByteArray=>s.data.toList) h;simpa[strOfNums]using this
  clear h
  induction a generalizing b with
  |nil=>cases b with
   |nil=>rfl
   |cons y b=>simp at h1
  |cons x a ih =>
   cases b with
   |nil=>simp at h1
   |cons y b =>
    simp only[List.map_cons,List.cons.injEq]at h1;have hx:=ha x (by simp);have hy:=hb y (by simp);have e:x.toNat=y.toNat:=by have:=congrArg UInt8.toNat h1.1;rw[Au x.toNat (by omega),Au y.toNat (by omega)]at this;exact this
    have iQ:x=y:=by omega
    rw[iQ,ih (fun z hz=>ha z (by simp[hz])) (fun z hz=>hb z (by simp[hz])) h1.2]
def Ud(n:Int):Array Value:=((enc n).map (ι .u8)).toArray
theorem Q04(w:World)(n:Int)(T:TypeId):RB (w.alloc (θ (Ud n) T)) (w.heap.size+1) (some ⟨w.heap.size,0,none⟩) (enc n) :=
  ⟨kI n,.inr ⟨_,_,rfl,by omega,fun i hi=>by
    rw[World.cell?_alloc_at _ _ _ _ rfl];simp[Ud,List.getD,hi]⟩⟩
theorem Qjk:∀c:Fin 256,(192≤c.val→c.val<224→bits .andNot .u8 (c.val:Int) 192=(c.val:Int)-192)∧(224≤c.val→c.val<240→bits .andNot .u8 (c.val:Int) 224=(c.val:Int)-224)∧
    (240≤c.val→c.val<248→bits .andNot .u8 (c.val:Int) 240=(c.val:Int)-240)∧((bits .andNot .u8 (c.val:Int) 63 != 128)=!G7 (c.val:Int)):=by decide +kernel
theorem tT(c:Int)(h0:0≤c)(h1:c<256):(192≤c→c<224→bits .andNot .u8 c 192=c-192)∧(224≤c→c<240→bits .andNot .u8 c 224=c-224)∧
    (240≤c→c<248→bits .andNot .u8 c 240=c-240)∧((bits .andNot .u8 c 63 != 128)=!G7 c):=by
  obtain⟨n,rfl⟩:=Int.eq_ofNat_of_zero_le h0;obtain⟨a,b,d,e⟩:=Qjk ⟨n,by omega⟩;exact⟨fun x y=>a (by simp only;omega) (by simp only;omega),fun x y=>b (by simp only;omega) (by simp only;omega),fun x y=>d (by simp only;omega) (by simp only;omega),e⟩
theorem Zr(c:Int)(w:World)(h0:0≤c)(h1:c<256) :
    Calls prog 77 #[ι .u8 c] w fun e w'=>e=ρ (.tuple #[ι κ (Jo c),ι .i32 (Ko c)])∧w=w':=by
  obtain⟨a1,a2,a3,_⟩:=tT c h0 h1;have hN:Jo c=if c<128 then 1 else if c<192 then 0 else if c<224 then 2 else if c<240 then 3 else if c<248 then 4 else 0:=rfl
  have hB:Ko c=if c<128 then c else if c<192 then 0 else if c<224 then c-192 else if c<240 then c-224 else if c<248 then c-240 else 0:=rfl
  generalize Jo c=n at *;generalize Ko c=s at *;have HN:=QA hN;clear hN;have HB:=QA hB;clear hB;by_cases c1:c<128
  ·rw[if_pos c1]at HN HB;obtain rfl:=HN.out;obtain rfl:=HB.out;clear HN HB a1 a2 a3;go_enter func77,ntmps77;go_wp2
   go_ret2
   exact⟨rfl,rfl⟩
  rw[if_neg c1]at HN HB;by_cases c2:c<192
  ·rw[if_pos c2]at HN HB;obtain rfl:=HN.out;obtain rfl:=HB.out;clear HN HB a1 a2 a3;go_enter func77,ntmps77;go_wp2
   go_ret2
   exact⟨rfl,rfl⟩
  rw[if_neg c2]at HN HB;by_cases c3:c<224
  ·rw[if_pos c3]at HN HB;obtain rfl:=HN.out;obtain rfl:=HB.out;clear HN HB a2 a3;have b1:=a1 (by omega) c3;clear a1;go_enter func77,ntmps77;go_wp2
   go_ret2
   exact⟨rfl,rfl⟩
  rw[if_neg c3]at HN HB;by_cases c4:c<240
  ·rw[if_pos c4]at HN HB;obtain rfl:=HN.out;obtain rfl:=HB.out;clear HN HB a1 a3;have b1:=a2 (by omega) c4;clear a2;go_enter func77,ntmps77;go_wp2
   go_ret2
   exact⟨rfl,rfl⟩
  rw[if_neg c4]at HN HB;by_cases c5:c<248
  ·rw[if_pos c5]at HN HB;obtain rfl:=HN.out;obtain rfl:=HB.out;clear HN HB a1 a2;have b1:=a3 (by omega) c5;clear a3;go_enter func77,ntmps77;go_wp2
   go_ret2
   exact⟨rfl,rfl⟩
  rw[if_neg c5]at HN HB;obtain rfl:=HN.out;obtain rfl:=HB.out;clear HN HB a1 a2 a3;go_enter func77,ntmps77;go_wp2
  go_ret2
  exact⟨rfl,rfl⟩
theorem Q24{k:IntKind}{a b:Int}(h:a=b):ρ (ι k a)=ρ (ι k b):=by rw[h]
theorem gB(n:Int)(w:World) :
    Calls prog 78 #[ι .i32 n] w fun e w'=>e=ρ (ι κ (Vh n))∧w=w':=by
  have hN:Vh n=if n<0 then 0 else if n<128 then 1 else if n<2048 then 2 else if 55296≤n∧n<57344 then 0 else if n<65536 then 3 else if n<1114112 then 4 else 0:=rfl
  generalize Vh n=l at *;have HN:=QA hN;clear hN;by_cases c1:n<0
  ·rw[if_pos c1]at HN;obtain rfl:=HN.out;clear HN;go_enter func78,ntmps78;go_wp2;go_ret;exact⟨rfl,rfl⟩
  rw[if_neg c1]at HN;by_cases c2:n<128
  ·rw[if_pos c2]at HN;obtain rfl:=HN.out;clear HN;go_enter func78,ntmps78;go_wp2;go_ret;exact⟨rfl,rfl⟩
  rw[if_neg c2]at HN;by_cases c3:n<2048
  ·rw[if_pos c3]at HN;obtain rfl:=HN.out;clear HN;go_enter func78,ntmps78;go_wp2;go_ret;exact⟨rfl,rfl⟩
  rw[if_neg c3]at HN;by_cases c4:55296≤n∧n<57344
  ·rw[if_pos c4]at HN;obtain rfl:=HN.out;clear HN;obtain⟨d1,d2⟩:=c4;go_enter func78,ntmps78;go_wp2;go_ret;exact⟨rfl,rfl⟩
  rw[if_neg c4]at HN;have eJ:n<55296∨57344≤n:=by omega
  by_cases c5:n<65536
  ·rw[if_pos c5]at HN;obtain rfl:=HN.out;clear HN c4;rcases eJ with c4|c4
   all_goals
     go_enter func78,ntmps78;go_wp2;go_ret;exact⟨rfl,rfl⟩
  rw[if_neg c5]at HN;clear c4 eJ;by_cases c6:n<1114112
  ·rw[if_pos c6]at HN;obtain rfl:=HN.out;clear HN;go_enter func78,ntmps78;go_wp2;go_ret;exact⟨rfl,rfl⟩
  rw[if_neg c6]at HN;obtain rfl:=HN.out;clear HN;go_enter func78,ntmps78;go_wp2;go_ret;exact⟨rfl,rfl⟩
theorem Qi3(n:Int)(w:World)(h:Vh n≠0) :
    Calls prog 76 #[ι κ n] w fun e w'=>e=ρ (.tuple #[ς (some ⟨w.heap.size,0,none⟩) (Vh n) (Vh n),ι κ 0])∧w.alloc (θ (Ud n) 5)=w':=by
  rcases Xc n with e|e|e|e|e
  ·exact absurd e h
  ·obtain⟨h0,h1⟩:=xf e;have E:Ud n=#[ι .u8 n]:=by unfold Ud;rw[enc1 e];rfl
   rw[e,E];clear e E h;go_enter func76,ntmps76;go_wp2
   go_ret2
   exact⟨rfl,rfl⟩
  ·obtain⟨h0,h1⟩:=za e;have E:Ud n=#[ι .u8 (192+n/64),ι .u8 (128+n%64)]:=by unfold Ud;rw[enc2 e];rfl
   rw[e,E];clear e E h;go_enter func76,ntmps76;go_wp2
   go_ret2
   exact⟨rfl,rfl⟩
  ·obtain⟨h0,h1,h2⟩:=U0 e;have E:Ud n=#[ι .u8 (224+n/4096),ι .u8 (128+n/64%64),ι .u8 (128+n%64)]:=by unfold Ud;rw[enc3 e];rfl
   rw[e,E];clear e E h;rcases h2 with h2|h2
   all_goals
     go_enter func76,ntmps76;go_wp2
     go_ret2
     exact⟨rfl,rfl⟩
  ·obtain⟨h0,h1⟩:=zt e;have E:Ud n=#[ι .u8 (240+n/262144),ι .u8 (128+n/4096%64),ι .u8 (128+n/64%64),ι .u8 (128+n%64)]:=by unfold Ud;rw[enc4 e];rfl
   rw[e,E];clear e E h;go_enter func76,ntmps76;go_wp2
   go_ret2
   exact⟨rfl,rfl⟩
theorem Qkz(n:Int)(w:World)(h:Vh n=0) :
    Calls prog 76 #[ι κ n] w fun e w'=>e=ρ (.tuple #[ς none 0 0,ι κ 1])∧w=w':=by
  have h':=Qqq h;clear h;rcases h' with h|⟨h,h'⟩|h
  all_goals
    go_enter func76,ntmps76;go_wp2
    go_ret2
    exact⟨rfl,rfl⟩
theorem Qrk{c:Int}{n:Nat}{r:List Int}{k:Nat}(h0:0≤c)(hn:Jo c=n)(hk:k+1<n):0≤acc (Ko c) (r.take k)∧acc (Ko c) (r.take k)<32768:=by
  have hl:(r.take k).length≤k:=List.length_take_le _ _;rcases Ya c with⟨e,_⟩|⟨e,b,_⟩|⟨e,b,_⟩|⟨e,b,_⟩|⟨e,b,_⟩
  ·omega
  ·omega
  ·have:=Az (r.take k) (Ko c) 32 (by omega) (by omega);have e0:(r.take k).length=0:=by omega
   rw[e0]at this;omega
  ·have:=Az (r.take k) (Ko c) 16 (by omega) (by omega);have e0:(r.take k).length=0∨(r.take k).length=1:=by omega
   rcases e0 with e0|e0 <;> rw[e0]at this <;> omega
  ·have:=Az (r.take k) (Ko c) 8 (by omega) (by omega);have e0:(r.take k).length=0∨(r.take k).length=1∨(r.take k).length=2:=by omega
   rcases e0 with e0|e0|e0 <;> rw[e0]at this <;> omega
theorem ot{c s:Int}{n:Nat}{r:List Int}(h0:0≤c)(h1:c<256)(hn:Jo c=n)(hs:Ko c=s):0≤acc s (r.take (n-1))∧acc s (r.take (n-1))<2147483648:=by
  have hl:(r.take (n-1)).length≤n-1:=List.length_take_le _ _;have hle:n≤4:=by rw[←hn];exact rf c
  have hb:0≤s∧s<256:=by
    rw[←hs];unfold Ko;repeat' split
    all_goals omega
  have:=Az (r.take (n-1)) s 256 hb.1 hb.2;have e0:(r.take (n-1)).length=0∨(r.take (n-1)).length=1∨(r.take (n-1)).length=2∨(r.take (n-1)).length=3:=by omega
  rcases e0 with e0|e0|e0|e0 <;> rw[e0]at this <;> omega
theorem Qqg(b off:Nat)(cap:Nat)(c:Int)(r:List Int)(w:World)(hb:ZZ (c::r))(hcap:r.length+1≤cap)(ZF:cap≤maxLen)
    (hcell:∀i,i<r.length+1→w.cell? ⟨b,off+i,none⟩=some (ι .u8 ((c::r).getD i 0))) :
    Calls prog 62 #[ς (some ⟨b,off,none⟩) (r.length+1) cap] w fun e w'=>e=ρ (.tuple #[ι κ (VS (c::r)).1,ι κ ((VS (c::r)).2:Nat)])∧w=w':=by
  have hc:=hb c (by simp);unfold maxLen at ZF;have hc0:w.cell? ⟨b,off,none⟩=some (ι .u8 c):=by simpa using hcell 0 (by omega)
  have UK:=Zr c w hc.1 hc.2;obtain⟨n,hn⟩:∃n,Jo c=n:=⟨_,rfl⟩;obtain⟨s,hs⟩:∃s,Ko c=s:=⟨_,rfl⟩;rw[hn,hs]at UK;have MB:=QA UK;clear UK;have hle:n≤4:=by rw[←hn];exact rf c
  have hx:=xq c r;rw[hn,hs]at hx;have Hn:=QA hn;have Hs:=QA hs;clear hn hs;by_cases h0:n=0
  ·subst h0;rw[if_pos (.inl rfl)]at hx;rw[hx];clear hx Hn Hs;have hr:((r.length:Int)+1==0)=false:=by rw[beq_eq_false_iff_ne];omega
   go_enter func62,ntmps62;go_wp2_with (go_at_call 77;refine MB.out.mono ?_;rintro e w' ⟨rfl,rfl⟩)
   go_ret2
   exact⟨rfl,rfl⟩
  have hr:((r.length:Int)+1==0)=false:=by rw[beq_eq_false_iff_ne];omega
  have hn0:((n:Int)==0)=false:=by rw[beq_eq_false_iff_ne];omega
  by_cases h1:r.length+1<n
  ·rw[if_pos (.inr h1)]at hx;rw[hx];clear hx Hn Hs;go_enter func62,ntmps62;go_wp2_with (go_at_call 77;refine MB.out.mono ?_;rintro e w' ⟨rfl,rfl⟩)
   go_ret2
   exact⟨rfl,rfl⟩
  rw[if_neg (by omega)]at hx;have Hx:=QA hx;clear hx;have fK:n≤r.length+1:=by omega
  have JU:1≤n:=by omega
  have fJ:(n:Int)≤(r.length:Int)+1:=by omega
  by_cases Oy:cap=1
  ·subst Oy;obtain rfl:r=[]:=List.eq_nil_of_length_eq_zero (by omega);simp only[List.length_nil,Nat.zero_add]at fK;obtain rfl:n=1:=by omega
   have hres:VS [c]=(c,1):=by
     have hcs:=Ya c;rw[Hn.out]at hcs;have h3:c<128:=by omega
     have:=Bi (k:=c) (by rw[Eu hc.1 h3];omega) [];rw[enc1 (Eu hc.1 h3),Eu hc.1 h3]at this;exact this
   have hsc:s=c:=by have hcs:=Ya c;rw[Hn.out,Hs.out]at hcs;omega
   subst hsc;have h3:s<128:=by have hcs:=Ya s;rw[Hn.out]at hcs;omega
   obtain⟨s0,s1⟩:=hc;have ET:=QA hres;clear hres;have hL:=gB s w;rw[Eu s0 h3]at hL;have HL:=QA hL;clear hL;go_enter func62,ntmps62;go_wp2_with (go_at_call 77;refine MB.out.mono ?_;rintro e w' ⟨rfl,rfl⟩)
   go_loop [5,7,30] (fun sg _ i=>i=ι κ 0∧sg=ι .i32 s) (fun _ _ _=>0)
   case atStart=>exact⟨rfl,rfl⟩
   case round =>
     obtain⟨rfl,rfl⟩:=hrel;go_wp2_with (go_at_call 78;refine HL.out.mono ?_;rintro e w' ⟨rfl,rfl⟩)
     go_ret2
     rw[ET.out];exact⟨rfl,rfl⟩
  go_enter func62,ntmps62;go_wp2_with (go_at_call 77;refine MB.out.mono ?_;rintro e w' ⟨rfl,rfl⟩)
  go_loop [5,7,30] (fun sg _ i=>∃k:Nat,k≤n-1∧i=ι κ k∧sg=ι .i32 (acc s (r.take k))∧(r.take k).all G7=true) (fun _ _ i=>(n-1)-(intOf i).toNat)
  case atStart=>exact⟨0,Nat.zero_le _,rfl,rfl,rfl⟩
  case round =>
    obtain⟨k,hk,rfl,rfl,hall⟩:=hrel;by_cases hlt:k<n-1
    ·have hkr:k<r.length:=by omega
     have hd:=hb (r.getD k 0) (by simp[List.getD,hkr]);have NC:w.cell? ⟨b,off+1+k,none⟩=some (ι .u8 (r.getD k 0)):=by have:=hcell (k+1) (by omega);rw[show off+(k+1)=off+1+k from by omega]at this;rw[this];simp[List.getD]
     have htk:r.take (k+1)=r.take k++[r.getD k 0]:=by rw[List.take_succ_eq_append_getElem hkr];simp[List.getD,hkr]
     have hS:0≤acc s (r.take k)∧acc s (r.take k)<32768:=by have:=Qrk (r:=r) hc.1 Hn.out (k:=k) (by omega);rw[Hs.out]at this;exact this
     have Dq:=sw (r.take k) (r.getD k 0) s;rw[←htk]at Dq;obtain⟨_,_,_,OB⟩:=tT _ hd.1 hd.2;have OC:(r.take (k+1)).all G7=G7 (r.getD k 0):=by rw[htk,List.all_append,hall];simp
     generalize Oj:r.getD k 0=d at *;generalize ed:acc s (r.take k)=S at *;have gY:=QA Dq;have Hde:=QA Oj;have HSe:=QA ed;have Htk:=QA htk;have Q39:=QA hall;have Wb:=QA OC;clear Dq Oj ed htk hall OC;obtain⟨WS,hS1⟩:=hS;obtain⟨hd0,hd1⟩:=hd;by_cases WO:G7 d=true
     ·rw[WO]at OB;go_wp2
      go_round
      case rel=>exact⟨k+1,by omega,by go_num,by rw[gY.out],by rw[Wb.out,WO]⟩
      case measure=>simp[intOf];omega
     ·have Ow:G7 d=false:=by simpa using WO
      rw[Ow]at OB;have hres:VS (c::r)=(-1,0):=by
        rw[Hx.out,if_pos];have e:r.take (n-1)=r.take (k+1)++(r.drop (k+1)).take (n-1-(k+1)):=by rw[←List.take_append_drop (k+1) (r.take (n-1)),List.take_take,List.drop_take,Nat.min_eq_left (by omega)]
        rw[e,List.all_append,Wb.out,Ow,Bool.false_and]
      have ET:=QA hres;clear hres WO;go_wp2
      go_ret2
      rw[ET.out];exact⟨rfl,rfl⟩
    ·obtain rfl:k=n-1:=by omega
     have hS:0≤acc s (r.take (n-1))∧acc s (r.take (n-1))<2147483648:=ot hc.1 hc.2 Hn.out Hs.out;have hres:=Hx.out;rw[if_neg (by rw[hall];simp)]at hres;generalize acc s (r.take (n-1))=S at *;clear hall;obtain⟨WS,hS1⟩:=hS;by_cases hlen:Vh S=n
     ·rw[if_pos hlen]at hres;have ET:=QA hres;clear hres;have hL:=gB S w;rw[hlen]at hL;have HL:=QA hL;clear hL hlen;have hnn:((n:Int) != n)=false:=by simp
      go_wp2_with (go_at_call 78;refine HL.out.mono ?_;rintro e w' ⟨rfl,rfl⟩)
      go_ret2
      rw[ET.out];exact⟨rfl,rfl⟩
     ·rw[if_neg hlen]at hres;have ET:=QA hres;clear hres;have hL:=gB S w;have hnn:((Vh S:Int) != n)=true:=by rw[bne_iff_ne];omega
      generalize Vh S=L at *;have HL:=QA hL;clear hL hlen;go_wp2_with (go_at_call 78;refine HL.out.mono ?_;rintro e w' ⟨rfl,rfl⟩)
      go_ret2
      rw[ET.out];exact⟨rfl,rfl⟩
theorem Qu0(A:Option Addr)(cap:Nat)(w:World) :
    Calls prog 62 #[ς A 0 cap] w fun e w'=>e=ρ (.tuple #[ι κ (-1),ι κ 0])∧w=w':=by
  go_enter func62,ntmps62;go_wp2
  go_ret2
  exact⟨rfl,rfl⟩
theorem Vk(A:Option Addr)(cap:Nat)(xs:List Int)(w:World)(B:Nat)(h:RB w B A xs)(hcap:xs.length≤cap)(ZF:cap≤maxLen) :
    Calls prog 62 #[ς A xs.length cap] w fun e w'=>e=ρ (.tuple #[ι κ (VS xs).1,ι κ ((VS xs).2:Nat)])∧w=w':=by
  cases xs with
  |nil=>exact Qu0 A cap w
  |cons c r=>obtain⟨b,off,rfl,_,hc⟩:=h.cell (by simp);exact Qqg b off cap c r w h.Ha hcap ZF hc
theorem below_drewN{B:Nat}{a w:World}(h:Below B a w)(n:Nat):Below B a (w.drewN n):=⟨h.os,h.tape,h.output,h.size,h.block⟩
theorem mO{a b:ByteArray}(h:a.toList=b.toList):a=b:=by
  rw[ByteArray.toList_eq,ByteArray.toList_eq]at h;cases a;cases b;simp at h;rw[h]
def cU(xs:List Int)(m:Nat):Prop:=∀j,1≤j→j<m→j≤xs.length→¬hit j xs
theorem Q2o{m:Nat}{c:Int}(h0:0≤c)(h1:c<256):0≤md m c∧md m c<256:=by
  unfold md;repeat' split
  all_goals omega
theorem ou{m:Nat}{c:Int}{r:List Int}{k:Nat}(h0:0≤c)(h1:c<256)(hk:k≤3):0≤acc (md m c) (r.take k)∧acc (md m c) (r.take k)<67108864:=by
  have hl:(r.take k).length≤k:=List.length_take_le _ _;have hb:=Q2o (m:=m) h0 h1;have:=Az (r.take k) (md m c) 256 hb.1 hb.2;have e0:(r.take k).length=0∨(r.take k).length=1∨(r.take k).length=2∨(r.take k).length=3:=by omega
  rcases e0 with e0|e0|e0|e0 <;> rw[e0]at this <;> omega
theorem Qi2(b off:Nat)(cap:Nat)(c:Int)(r:List Int)(w:World)(hb:ZZ (c::r))(hcap:r.length+1≤cap)(ZF:cap≤maxLen)(ZW:b<w.heap.size)
    (hcell:∀i,i<r.length+1→w.cell? ⟨b,off+i,none⟩=some (ι .u8 ((c::r).getD i 0))) :
    Calls prog 56 #[ς (some ⟨b,off,none⟩) (r.length+1) cap] w fun e w'=>e=ρ (.tuple #[ι κ (VS (c::r)).1,ι κ ((VS (c::r)).2:Nat)])∧Below w.heap.size w w':=by
  unfold maxLen at ZF;obtain⟨hc0,hc1⟩:=hb c (by simp);have hce:w.cell? ⟨b,off,none⟩=some (ι .u8 c):=by simpa using hcell 0 (by omega)
  go_enter func56,ntmps56;go_wp2
  go_loopw [4,5,6,7,8] (fun n _ _ _ _ wr=>∃m:Nat,1≤m∧m≤5∧n=ι κ m∧cU (c::r) m∧Below w.heap.size w wr) (fun n _ _ _ _ _=>5-(intOf n).toNat)
  case atStart=>exact⟨1,by omega,by omega,rfl,fun j _ _=>by omega,Below.refl _ _⟩
  case round =>
    obtain⟨m,Hh,hm5,rfl,hno,ZU⟩:=hrel;by_cases hend:m=5∨r.length+1<m
    ·have hres:VS (c::r)=(-1,0):=Q1f hb (fun j h1 h4 hl=>hno j h1 (by rw[VX]at hl;omega) hl);have ET:=QA hres;clear hres;rcases hend with hend|hend
     ·have iL:¬(m:Int)≤4:=by omega
      clear hend;go_wp2
      go_ret2
      rw[ET.out];exact⟨rfl,ZU⟩
     ·have hlm:¬(m:Int)≤(r.length:Int)+1:=by omega
      by_cases iL:(m:Int)≤4
      all_goals
        go_wp2
        go_ret2
        rw[ET.out];exact⟨rfl,ZU⟩
    ·have hm4:(m:Int)≤4:=by omega
     have Du:(m:Int)≤(r.length:Int)+1:=by omega
     have iw:wr.cell? ⟨b,off,none⟩=some (ι .u8 c):=(ZU.cell ZW).trans hce;have PX:∀i,i<r.length+1→wr.cell? ⟨b,off+i,none⟩=some (ι .u8 ((c::r).getD i 0)):=fun i hi=>(ZU.cell ZW).trans (hcell i hi)
     have CB:=QA PX;clear PX;have fO:m=1∨m=2∨m=3∨m=4:=by omega
     have uz:md m c=if m=2 then c%32 else if m=3 then c%16 else if m=4 then c%8 else c:=rfl
     have AY:=QA (fun k (hk:k≤3)=>ou (m:=m) (r:=r) (k:=k) hc0 hc1 hk);have hK:Rc m (c::r)=acc (md m c) (r.take (m-1)):=rfl;generalize md m c=k0 at *;have HK:=QA hK;clear hK;have h2:((m:Int)==2)=decide (m=2):=by by_cases h:m=2 <;> simp[h];omega
     have h3:((m:Int)==3)=decide (m=3):=by by_cases h:m=3 <;> simp[h];omega
     have h4:((m:Int)==4)=decide (m=4):=by by_cases h:m=4 <;> simp[h];omega
     obtain⟨b2,e2⟩:∃b2,decide (m=2)=b2:=⟨_,rfl⟩;obtain⟨b3,e3⟩:∃b3,decide (m=3)=b3:=⟨_,rfl⟩;obtain⟨b4,e4⟩:∃b4,decide (m=4)=b4:=⟨_,rfl⟩;rw[e2]at h2;rw[e3]at h3;rw[e4]at h4;have Sq:k0=if b2 then c%32 else if b3 then c%16 else if b4 then c%8 else c:=by rw[uz,←e2,←e3,←e4];simp
     have hbs:(b2=false∧b3=false∧b4=false)∨(b2=true∧b3=false∧b4=false)∨(b2=false∧b3=true∧b4=false)∨(b2=false∧b3=false∧b4=true):=by rw[←e2,←e3,←e4];simp;omega
     clear e2 e3 e4 uz fO hend;rcases hbs with⟨rfl,rfl,rfl⟩|⟨rfl,rfl,rfl⟩|⟨rfl,rfl,rfl⟩|⟨rfl,rfl,rfl⟩
     all_goals
       simp only[if_true,if_false,Bool.false_eq_true]at Sq;have Hk0:=QA Sq;clear Sq;go_wp2
       go_loop [5,6] (fun k i=>∃j:Nat,1≤j∧j≤m∧i=ι κ j∧k=ι κ (acc k0 (r.take (j-1)))) (fun _ i=>m-(intOf i).toNat)
       case atStart=>exact⟨1,by omega,Hh,rfl,by rw[Hk0.out];rfl⟩
       case round =>
         obtain⟨j,uF,hjm,rfl,rfl⟩:=hrel;by_cases hlt:j<m
         ·have NC:=CB.out j (by omega);have hd:=hb.getD j;have Mk:(c::r).getD j 0=r.getD (j-1) 0:=by
             obtain⟨i,rfl⟩:∃i,j=i+1:=⟨j-1,by omega⟩;simp[List.getD]
          have htk:r.take (j+1-1)=r.take (j-1)++[r.getD (j-1) 0]:=by
            have uE:j-1<r.length:=by omega
            rw[show j+1-1=(j-1)+1 from by omega,List.take_succ_eq_append_getElem uE];simp[List.getD,uE]
          have hS:=AY.out (j-1) (by omega);have Dq:=sw (r.take (j-1)) (r.getD (j-1) 0) k0;rw[←htk]at Dq;rw[Mk]at NC hd;generalize r.getD (j-1) 0=d at *;generalize acc k0 (r.take (j-1))=S at *;have gY:=QA Dq;clear Dq htk Mk;obtain⟨hd0,hd1⟩:=hd;obtain⟨WS,hS1⟩:=hS;have hjl:(j:Int)<(r.length:Int)+1:=by omega
          go_wp2
          go_round
          case rel=>exact⟨j+1,by omega,by omega,by go_num,by rw[gY.out];congr 1;omega⟩
          case measure=>simp[intOf];omega
         ·obtain rfl:j=m:=by omega
          rw[←HK.out];obtain⟨WS,hS1⟩:=AY.out (j-1) (by omega);rw[←HK.out]at WS hS1
          have uv:¬hit j (c::r)→cU (c::r) (j+1):=fun hh i h1 h2 h3=>by
            by_cases e:i=j
            ·rw[e];exact hh
            ·exact hno i h1 (by omega) h3
          have hhit:hit j (c::r)→VS (c::r)=(Rc j (c::r),j):=oV (by rw[VX];omega);have hdef:hit j (c::r)↔Vh (Rc j (c::r))≠0∧enc (Rc j (c::r))=(c::r).take j:=Iff.rfl;generalize Rc j (c::r)=K at *;generalize hit j (c::r)=HIT at *;have dB:=QA uv;have yc:=QA hhit;have Bj:=QA hdef;clear uv hhit hdef;by_cases hz:Vh K=0
          ·have hB:=QA (Qkz K wr hz);have Dt:=QA (dB.out (fun h=>(Bj.out.1 h).1 hz));clear hz;go_wp2_with (go_at_call 76;refine hB.out.mono ?_;rintro e w' ⟨rfl,rfl⟩)
           go_quiet (fail)
           go_wp2
           go_roundw
           case rel=>exact⟨j+1,by omega,by omega,by go_num,Dt.out,below_drewN ZU _⟩
           case measure=>simp[intOf];omega
          ·have hB:=QA (Qi3 K wr hz);have hL:=Jf K;have r1:=Q04 wr K 5
           have hcw:∀i,i<r.length+1→(wr.alloc (θ (Ud K) 5)).cell? ⟨b,off+i,none⟩=some (ι .u8 ((c::r).getD i 0)):=fun i hi=>by
             rw[World.cell?_alloc_lt _ _ _ (by have:=ZU.size;show b<_;omega)];exact CB.out i hi
           have MU:Below w.heap.size w (wr.alloc (θ (Ud K) 5)):=ZU.alloc ZU.size _;have r2:RB (wr.alloc (θ (Ud K) 5)) (b+1) (some ⟨b,off,none⟩) (c::r):=⟨hb,.inr ⟨b,off,rfl,by omega,hcw⟩⟩;have LJ:((c::r).take j).length=j:=by rw[List.length_take,VX];omega
           have c1:∀nq,(convert 30 9 (ς (some ⟨wr.heap.size,0,none⟩) (Vh K) (Vh K))).run prog ((wr.alloc (θ (Ud K) 5)).drewN nq) = .ok (σ (strOfNums (enc K))) ((wr.alloc (θ (Ud K) 5)).drewN nq):=fun nq=>by
             have:=zk (P:=prog) ((wr.alloc (θ (Ud K) 5)).drewN nq) 30 9 5 underlying30 underlying5 underlying9 r1 (Vh K);rw[hL]at this;exact this
           have c2:∀nq,(convert 30 9 (ς (some ⟨b,off,none⟩) j cap)).run prog ((wr.alloc (θ (Ud K) 5)).drewN nq) = .ok (σ (strOfNums ((c::r).take j))) ((wr.alloc (θ (Ud K) 5)).drewN nq):=fun nq=>by
             have:=zk (P:=prog) ((wr.alloc (θ (Ud K) 5)).drewN nq) 30 9 5 underlying30 underlying5 underlying9 (r2.take j) cap;rw[LJ]at this;exact this
           have hjc:(j:Int)≤cap:=by omega
           by_cases heq:enc K=(c::r).take j
           ·have hres:=QA (yc.out (Bj.out.2 ⟨hz,heq⟩));rw[←heq]at c2;clear hL hcw r1 r2 LJ hz heq;generalize Vh K=L at *;go_wp2_with (go_at_call 76;refine hB.out.mono ?_;rintro e w' ⟨rfl,rfl⟩)
            go_quiet (fail)
            go_wp2
            go_ret2
            rw[hres.out];exact⟨rfl,below_drewN MU _⟩
           ·have Dt:=QA (dB.out (fun h=>heq (Bj.out.1 h).2));have fF:((strOfNums (enc K)).toList==(strOfNums ((c::r).take j)).toList)=false:=by
               rw[beq_eq_false_iff_ne];exact fun h=>heq (Vz (kI K) (hb.take j) (mO h))
            clear hL hcw r1 r2 LJ hz heq;generalize Vh K=L at *;generalize strOfNums (enc K)=s1 at *;generalize strOfNums ((c::r).take j)=s2 at *;go_wp2_with (go_at_call 76;refine hB.out.mono ?_;rintro e w' ⟨rfl,rfl⟩)
            go_quiet (fail)
            go_wp2
            go_roundw
            case rel=>exact⟨j+1,by omega,by omega,by go_num,Dt.out,below_drewN MU _⟩
            case measure=>simp[intOf];omega
theorem Qkt(A:Option Addr)(cap:Nat)(w:World) :
    Calls prog 56 #[ς A 0 cap] w fun e w'=>e=ρ (.tuple #[ι κ (-1),ι κ 0])∧Below w.heap.size w w':=by
  go_enter func56,ntmps56;go_wp2
  go_loopw [4,5,6,7,8] (fun n _ _ _ _ wr=>n=ι κ 1∧wr=w) (fun n _ _ _ _ _=>5-(intOf n).toNat)
  case atStart=>exact⟨rfl,rfl⟩
  case round =>
    obtain⟨rfl,rfl⟩:=hrel;go_wp2
    go_ret2
    exact⟨rfl,Below.refl _ _⟩
theorem Qku(A:Option Addr)(n cap:Nat)(xs:List Int)(w:World)(B:Nat)(h:RB w B A xs)(hn:xs.length=n)(hB:B≤w.heap.size)(hcap:n≤cap)(ZF:cap≤maxLen) :
    Calls prog 56 #[ς A n cap] w fun e w'=>e=ρ (.tuple #[ι κ (VS xs).1,ι κ ((VS xs).2:Nat)])∧Below w.heap.size w w':=by
  subst hn;cases xs with
  |nil=>exact Qkt A cap w
  |cons c r=>obtain⟨b,off,rfl,hb,hc⟩:=h.cell (by simp);exact Qi2 b off cap c r w h.Ha hcap ZF (by omega) hc
theorem wN(A:Option Addr)(n cap:Nat)(xs:List Int)(w:World)(B:Nat)(h:RB w B A xs)(hn:xs.length=n)(hcap:n≤cap)(ZF:cap≤maxLen) :
    Calls prog 62 #[ς A n cap] w fun e w'=>e=ρ (.tuple #[ι κ (VS xs).1,ι κ ((VS xs).2:Nat)])∧w=w':=by
  subst hn;exact Vk A cap xs w B h hcap ZF
theorem mr{xs ks:List Int}{k:Nat}(hb:ZZ xs)(h1:YU ks)(h2:VC ks=xs.take k)(h0:(VS (xs.drop k)).2≠0)(hk:k≤xs.length) :
    k+(VS (xs.drop k)).2≤xs.length∧YU (ks++[(VS (xs.drop k)).1])∧VC (ks++[(VS (xs.drop k)).1])=xs.take (k+(VS (xs.drop k)).2):=by
  obtain⟨e1,e2⟩:=Er (k:=(VS (xs.drop k)).1) (n:=(VS (xs.drop k)).2) (hb.drop k) rfl h0;have hle:=kB (hb.drop k);rw[List.length_drop]at hle;refine⟨by omega,h1.snoc (by omega),?_⟩;rw[Qq8,h2,List.take_add]
  congr 1
  generalize VS (xs.drop k)=p at *;rw[e2,List.take_append_of_le_length (by rw[Jf];omega),List.take_of_length_le (by rw[Jf];omega)]
theorem Qv5(k:Int)(w:World):Calls prog 40 #[ι κ k] w fun e w'=>e = ρ (.tuple #[])∧w=w':=by
  go_enter func40,ntmps40;go_wp2
  go_end0
  exact⟨rfl,rfl⟩
theorem oG(A:Option Addr)(n cap:Nat)(xs:List Int)(w:World)(B:Nat)(h:RB w B A xs)(hn:xs.length=n)(hcap:n≤cap)(ZF:cap≤maxLen) :
    Calls prog 25 #[ς A n cap] w fun e w'=>e=ρ (ι κ (bad xs))∧w=w':=by
  have hB:=QA h.Ha;have Hn:=QA hn;clear hn;have h:=QA h;unfold maxLen at ZF;go_enter func25,ntmps25;go_wp2
  go_step3
  go_wp2
  go_step3
  go_wp2
  go_loop [5,6,7] (fun at_ _ _=>∃(k:Nat)(ks:List Int),k≤n∧at_=ι κ k∧Hid (YU ks∧VC ks=xs.take k)) (fun at_ _ _=>n-(intOf at_).toNat)
  case atStart=>exact⟨0,[],Nat.zero_le _,rfl,YU.nil,rfl⟩
  case round =>
    obtain⟨k,ks,hk,rfl,hks⟩:=hrel;have hstep:Hid ((VS (xs.drop k)).2=0→k=bad xs):=fun h0=>(AA hB.out hks.out.1 (by rw[Hn.out];exact hk) hks.out.2 h0).2
    have UB:Hid ((VS (xs.drop k)).2≠0→k+(VS (xs.drop k)).2≤n∧YU (ks++[(VS (xs.drop k)).1])∧VC (ks++[(VS (xs.drop k)).1])=xs.take (k+(VS (xs.drop k)).2)):=fun h0=>by
      have:=mr hB.out hks.out.1 hks.out.2 h0 (by rw[Hn.out];exact hk);rw[Hn.out]at this;exact this
    have hC:∀A',(A'=if cap=k then A else A.map (·.add k))→Calls prog 62 #[ς A' (n-k) (cap-k)] w fun e w'=>e = ρ (.tuple #[ι κ (VS (xs.drop k)).1,ι κ ((VS (xs.drop k)).2:Nat)])∧w=w':=fun A' hA=>by
      rw[hA];exact wN _ (n-k) (cap-k) (xs.drop k) w _ (h.out.drop (by rw[Hn.out];exact hk) (by rw[Hn.out];omega)) (by rw[List.length_drop,Hn.out]) (by omega) (by unfold maxLen;omega)
    generalize VS (xs.drop k)=p at *;obtain⟨sg,m⟩:=p;have HC:=QA hC;clear hC;by_cases h0:m=0
    ·subst h0;have hend:=QA (hstep.out rfl);clear hstep UB hks;by_cases NC:cap=k
     ·have Lx:=QA (HC.out A (by rw[if_pos NC]));have je:cap-k=0:=by omega
      rw[je]at Lx;go_wp2_with (go_at_call 62;refine Lx.out.mono ?_;rintro e w' ⟨rfl,rfl⟩);rw[Exit.noGoto_ret];go_wp2;go_ret;rw[←hend.out];exact⟨rfl,rfl⟩
     ·have Lx:=QA (HC.out _ (by rw[if_neg NC]));go_wp2_with (go_at_call 62;refine Lx.out.mono ?_;rintro e w' ⟨rfl,rfl⟩);rw[Exit.noGoto_ret];go_wp2;go_ret;rw[←hend.out];exact⟨rfl,rfl⟩
    ·have hm0:((m:Int)==0)=false:=by rw[beq_eq_false_iff_ne];omega
     obtain⟨Hh,hm2⟩:=UB.out h0;have HM:=QA hm2;clear hm2 hstep UB;have NC:¬cap=k:=by omega
     have Lx:=QA (HC.out _ (by rw[if_neg NC]));go_wp2_with (go_at_call 62;refine Lx.out.mono ?_;rintro e w' ⟨rfl,rfl⟩);refine(Qv5 _ _).mono ?_;rintro e w' ⟨rfl,rfl⟩;go_wp2
     go_round
     case rel=>exact⟨k+m,ks++[sg],by omega,by go_num,HM.out⟩
     case measure=>simp[intOf];omega
theorem rW:(prog.info? 3).map (fun i=>(i.zero,i.size,i.bytes))=some (some (ι κ 0),1,8):=by kernel_rfl
theorem zx{w:World}{base:Nat}{e:TypeId}{size:Nat}{v:Value}{n:Nat}{xs:List Value}(h:w.ownsRow base e size v n xs):∃a cap,v=ς a n cap∧n≤cap∧cap≤maxLen:=by
  rcases h.2 with⟨hv,h0⟩|⟨g,cap,_,hv,_,_,h1,h2,_⟩
  ·exact⟨none,0,by rw[hv,h0],by omega,by unfold maxLen;omega⟩
  ·exact⟨_,cap,hv,h1,h2⟩
theorem pY:∀(ks:List Int),YU ks→ks.length≤(VC ks).length
  |[],_=>QH _
  |k::r,h=>by
   have h1:=h k (by simp);have:=pY r (fun x hx=>h x (by simp[hx]));simp only[VC,JF,VX,Jf];omega
theorem Quo{w:World}{base base':Nat}{e:TypeId}{size:Nat}{v:Value}{n:Nat}{xs:List Value}(h:w.ownsRow base e size v n xs)(hb:base'≤base):w.ownsRow base' e size v n xs :=
  ⟨h.1,by
    rcases h.2 with h' |⟨g,cap,cur,a,b,c⟩
    ·exact .inl h'
    ·exact .inr ⟨g,cap,cur,a,by omega,c⟩⟩
section
variable {w w':World}{base:Nat}{e:TypeId}{size:Nat}{v:Value}{n:Nat}{vs:List Value}
theorem KR(h:w.ownsRow base e size v n vs){B:Nat}(hb:Below B w w')(hB:w.heap.size≤B):w'.ownsRow base e size v n vs :=
  ⟨h.1,by
    rcases h.2 with h' |⟨g,cap,cur,a,b,hg,r⟩
    ·exact .inl h'
    ·exact .inr ⟨g,cap,cur,a,b,(hb.block g (by have:=lt_of_block hg;omega)).trans hg,r⟩⟩
theorem La(h:w.ownsRow base e size v n vs)(k:Nat):(w.drewN k).ownsRow base e size v n vs:=h
theorem nE{e':TypeId}{base' size' n':Nat}{v':Value}{vs':List Value}(h:w.ownsRow base e size v n vs)(h':w.ownsRow base' e' size' v' n' vs')(hne:e≠e'):v.ownBlock=none∨v.ownBlock≠v'.ownBlock:=by
  rcases h.2 with⟨rfl,_⟩|⟨g,cap,cur,rfl,_,hg,_⟩
  ·exact .inl rfl
  ·rcases h'.2 with⟨rfl,_⟩|⟨g',cap',cur',rfl,_,hg',_⟩
   ·exact .inr (by simp[Value.ownBlock])
   ·refine .inr fun hh=>?_
    have hgg:g=g':=by simpa[Value.ownBlock]using hh
    subst hgg;rw[hg]at hg';injection hg' with hg';injection hg' with _ he;exact hne he
end
def RI(w:World)(B:Nat)(A:Option Addr)(xs:List Int):Prop :=
  xs=[]∨∃b off,A=some ⟨b,off,none⟩∧b<B∧∀i,i<xs.length→w.cell? ⟨b,off+i,none⟩=some (ι κ (xs.getD i 0))
theorem RI.below{w w':World}{B:Nat}{A:Option Addr}{xs:List Int}(h:RI w B A xs){B0:Nat}(hb:Below B0 w w')(hB:B≤B0):RI w' B A xs:=by
  rcases h with h|⟨b,off,e,hl,hc⟩
  ·exact .inl h
  ·exact .inr ⟨b,off,e,hl,fun i hi=>(hb.cell (by show b<B0;omega)).trans (hc i hi)⟩
theorem RI.at_{w:World}{B:Nat}{A:Option Addr}{xs:List Int}(h:RI w B A xs){i:Nat}(hi:i<xs.length):∃b off,A=some ⟨b,off,none⟩∧b<B∧w.cell? ⟨b,off+i,none⟩=some (ι κ (xs.getD i 0)):=by
  rcases h with h|⟨b,off,e,hl,hc⟩
  ·subst h;simp at hi
  ·exact⟨b,off,e,hl,hc i hi⟩
theorem RI.take{w:World}{B:Nat}{A:Option Addr}{xs:List Int}(h:RI w B A xs)(n:Nat):RI w B A (xs.take n):=by
  rcases h with h|⟨b,off,e,hl,hc⟩
  ·exact .inl (by rw[h];simp)
  ·refine .inr ⟨b,off,e,hl,fun i hi=>?_⟩;rw[List.length_take]at hi;rw[hc i (by omega)];simp[List.getD,show i<n by omega]
theorem lY{w:World}{base n c:Nat}{A:Option Addr}{xs:List Int}(h:w.ownsRow base 3 1 (ς A n c) n (xs.map (ι κ))):RI w w.heap.size A xs:=by
  by_cases hx:xs=[]
  ·exact .inl hx
  ·have hn:n=xs.length:=by have:=h.1;simpa using this.symm
   have hp:0<xs.length:=List.length_pos_iff.2 hx;rcases h.2 with⟨_,h0⟩|⟨g,cap,cur,hv,hg0,hg,h1,h2,h3,h4⟩
   ·omega
   ·injection hv with hA _ _;refine .inr ⟨g,0,hA,lt_of_block hg,fun i hi=>?_⟩;have hlt:i<cur.size:=by omega
    have e1:w.cell? ⟨g,0+i,none⟩=cur[i]?:=by simp[World.cell?,hg]
    rw[e1];have e2:(xs.map (ι κ))[i]?=cur.toList[i]?:=by rw[←h4,List.getElem?_take];simp;omega
    rw[←Array.getElem?_toList,←e2];simp[List.getD,hi]
theorem oC(w:World){ops:Array Oper}{rest:List Oper}{o:Oper}{a:Act}{Q:Exit→Act→World→Prop}(hgd:o.guard=none)(s x:Operand)
    (ho:o.op=.call { callee:=.builtin .append,args:=#[s,x],argTypes:=#[61,61] }) (base:Nat) (v:Value) (ks:List Int) (k:Int) (hs:a.eval s=v)
    (hown:w.ownsRow base 3 1 v ks.length (ks.map (ι κ))) (g:Nat) (hg:g=w.heap.size) (hx:a.eval x=ς (some ⟨g,0,none⟩) 1 1)
    (h63:ks.length≤1000000) (hbase:base≤w.heap.size)
    (h:∀v' w',w'.ownsRow base 3 1 v' (ks++[k]).length ((ks++[k]).map (ι κ))→Below w.heap.size w w'∨(∃b,v.ownBlock=some b∧w.grownBy w' (some b))→(∀B,(∀b,v.ownBlock=some b→B≤b)→B≤w.heap.size→Below B w w')→
      (v'.ownBlock=v.ownBlock∨v'.ownBlock=some (w.heap.size+1))→wpList prog ops Q rest (a.put o.dst v') w') :
    wpList prog ops Q (o::rest) a (w.alloc (θ #[ι κ k] 3)):=by
  obtain⟨i0,hi0,hz0,hz1,hz2⟩:=info_parts rW;subst hg;refine wpList_append_own_at (P:=prog) _ hgd s x 61 ho base 3 i0 (ι κ 0) 1 8 underlying61 hi0 hz0 hz1 hz2 rfl (by decide) v ks.length (ks.map (ι κ)) hs (hown.alloc _) ⟨w.heap.size,0,none⟩ 1 1 [ι κ k] hx rfl (cell_one_new _ _ _) (by simp[Value.oneCell']) (by unfold maxLen;omega) (by omega) (by simp;omega) fun v' w' h1 h2 _ h4=>?_
  have hB:∀B,(∀b,v.ownBlock=some b→B≤b)→B≤w.heap.size→Below B w w':=fun B hv hB =>
    ((Below.refl B w).alloc hB _).grown h2 (by simp;omega) hv
  refine h v' w' (by simpa using h1) ?_ hB (by simpa using h4);rcases hv:v.ownBlock with _|b
  ·exact .inl (hB _ (by simp[hv]) (QH _))
  ·refine .inr ⟨b,rfl,?_⟩;rw[hv]at h2;exact⟨h2.os,h2.tape,h2.output,by have:=h2.size;simp at this;omega,fun i hi hne=>(h2.block i (by simp;omega) hne).trans (Below.heap_alloc w _ i hi)⟩
def kD(xs:List Int)(w:World)(e:Ending)(w':World):Prop :=
  Below w.heap.size w w'∧
  ((bad xs≠xs.length∧e=ρ (.tuple #[ς none 0 0,ι κ (bad xs)]))∨
   (bad xs=xs.length∧∃v,e=ρ (.tuple #[v,ι κ (bad xs)])∧w'.ownsRow w.heap.size 3 1 v (LA xs).length ((LA xs).map (ι κ))))
theorem Qix(A:Option Addr)(n cap:Nat)(xs:List Int)(w:World)(B:Nat)(h:RB w B A xs)(hn:xs.length=n)(hB:B≤w.heap.size)(hcap:n≤cap)(ZF:cap≤maxLen)(hsm:n≤1000000) :
    Calls prog 30 #[ς A n cap] w (kD xs w):=by
  have hb:=QA h.Ha;have Hn:=QA hn;clear hn;have h:=QA h;unfold maxLen at ZF;go_enter func30,ntmps30;go_wp2
  go_loopw [4,5,6,7] (fun l at_ _ _ wr=>∃(k:Nat)(ks:List Int),k≤n∧at_=ι κ k∧Hid (YU ks∧VC ks=xs.take k)∧wr.ownsRow w.heap.size 3 1 l ks.length (ks.map (ι κ))∧Below w.heap.size w wr) (fun _ at_ _ _ _=>n-(intOf at_).toNat)
  case atStart=>exact⟨0,[],Nat.zero_le _,rfl,⟨YU.nil,rfl⟩,World.ownsRow_nil _ _ _ _,Below.refl _ _⟩
  case round =>
    obtain⟨k,ks,hk,rfl,hks,hown,ZU⟩:=hrel;have hkl:ks.length≤1000000:=by have:=pY ks hks.out.1;rw[hks.out.2,List.length_take]at this;omega
    have hstep:Hid ((VS (xs.drop k)).2=0→ks=LA xs∧k=bad xs):=fun h0=>AA hb.out hks.out.1 (by rw[Hn.out];exact hk) hks.out.2 h0
    have UB:Hid ((VS (xs.drop k)).2≠0→k+(VS (xs.drop k)).2≤n∧YU (ks++[(VS (xs.drop k)).1])∧VC (ks++[(VS (xs.drop k)).1])=xs.take (k+(VS (xs.drop k)).2)):=fun h0=>by
      have:=mr hb.out hks.out.1 hks.out.2 h0 (by rw[Hn.out];exact hk);rw[Hn.out]at this;exact this
    by_cases hkn:k<n
    ·have hC:Calls prog 56 #[ς (A.map (·.add k)) (n-k) (cap-k)] wr fun e w'=>e = ρ (.tuple #[ι κ (VS (xs.drop k)).1,ι κ ((VS (xs.drop k)).2:Nat)])∧Below wr.heap.size wr w':=by
        have:=(h.out.below ZU hB).drop (k:=k) (cap:=cap) (by rw[Hn.out];exact hk) (by rw[Hn.out];omega);rw[if_neg (by omega)]at this;exact Qku _ (n-k) (cap-k) (xs.drop k) wr _ this (by rw[List.length_drop,Hn.out]) (by have:=ZU.size;omega) (by omega) (by unfold maxLen;omega)
     generalize VS (xs.drop k)=p at *;obtain⟨sg,m⟩:=p;have HC:=QA hC;clear hC;have vV:(k:Int)<(n:Int):=by omega
     have NC:¬cap=k:=by omega
     by_cases h0:m=0
     ·subst h0;obtain⟨e1,e2⟩:=hstep.out rfl;have hF:Hid (∀w',Below wr.heap.size wr w'→kD xs w (ρ (.tuple #[ς none 0 0,ι κ k])) w'):=fun w' hb'=>⟨ZU.trans (hb'.mono ZU.size),.inl ⟨by rw[←e2,Hn.out];omega,by rw[←e2]⟩⟩
      clear e1 e2 hstep UB hks hown ZU;go_wp2_with (go_at_call 56;refine HC.out.mono ?_;rintro e w' ⟨rfl,hb1⟩)
      go_ret2
      exact hF.out _ hb1
     ·have hm0:((m:Int)==0)=false:=by rw[beq_eq_false_iff_ne];omega
      obtain⟨Hh,hm2⟩:=UB.out h0;have HM:=QA hm2;clear hm2 hstep UB hks;go_wp2_with (first|(go_at_call 56;refine HC.out.mono ?_;rintro e w1 ⟨rfl,hb1⟩)|(at_builtin;refine oC w1 rfl _ _ rfl w.heap.size _ ks sg rfl (KR hown hb1 (QH _)) _ rfl rfl hkl (VJ ZU.size hb1.size) ?_;intro v2 w2 hown2 _ iJ _));have Oz:Below w.heap.size w w2:=(ZU.trans (hb1.mono ZU.size)).trans (iJ _ (fun b hv=>(hown.lt b hv).1) (VJ ZU.size hb1.size))
      go_roundw
      case rel=>exact⟨k+m,ks++[sg],by omega,by go_num,HM.out,hown2,Oz⟩
      case measure=>simp[intOf];omega
    ·obtain rfl:k=n:=by omega
     have hge:¬(k:Int)<(k:Int):=by omega
     have hz:VS (xs.drop k)=(-1,0):=by rw[List.drop_of_length_le (by rw[Hn.out];omega)];rfl
     obtain⟨e1,e2⟩:=hstep.out (by rw[hz]);obtain⟨va,vc,rfl,_,_⟩:=zx hown;have hF:Hid (kD xs w (ρ (.tuple #[ς va ks.length vc,ι κ k])) wr):=⟨ZU,.inr ⟨by rw[←e2,Hn.out],_,by rw[←e2],by rw[←e1];exact hown⟩⟩;clear e1 e2 hstep UB hks hown ZU hz;go_wp2
     go_ret2
     exact hF.out
