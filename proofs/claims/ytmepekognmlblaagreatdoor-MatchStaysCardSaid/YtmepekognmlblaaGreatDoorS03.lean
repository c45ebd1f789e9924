import Derived.Test.YtmepekognmlblaaGreatDoorS01
import Derived.Test.YtmepekognmlblaaGreatDoorChecked
import Derived.WalkKit
import Derived.OpenShut
import Derived.Below
import Derived.Lib.Hide
import Derived.Laws.BytesArg
import Derived.Outline
import Derived.Deep.QuietTactic
import Derived.BigQuiet
import Derived.WalkMore
import Derived.OneCell
import Derived.OwnWalk
import Derived.Maps.AppendAt
set_option maxHeartbeats 1000000
set_option maxRecDepth 100000
set_option linter.unusedVariables false
open Go.Proofs.Tryz Go.ChangeShapes Go.WideShapes Go.ChangeAt Go.RowKit
open _root_.List renaming append_assoc→JZ
open Go.Lib renaming hid→QA
open Go.Value renaming string→σ,int→ι,slice→ς
open Go.IntKind renaming i64→γ
open Go.Ending renaming returned→ρ
namespace Go.Proofs.YtmepekognmlblaaGreatDoor
namespace Ro
def Ve(n:Int):Nat :=
 if n<0 then 0 else if n<128 then 1 else if n<2048 then 2 else if 55296≤n∧n<57344 then 0 else if n<65536 then 3 else if n<1114112 then 4 else 0
def enc(n:Int):List Int :=
 if Ve n=1 then[n]else if Ve n=2 then[192+n/64,128+n%64]else if Ve n=3 then[224+n/4096,128+n/64%64,128+n%64]
 else if Ve n=4 then[240+n/262144,128+n/4096%64,128+n/64%64,128+n%64]else[]
def Vd(c:Int):Nat:=if c<128 then 1 else if c<192 then 0 else if c<224 then 2 else if c<240 then 3 else if c<248 then 4 else 0
def Jd(c:Int):Int:=if c<128 then c else if c<192 then 0 else if c<224 then c-192 else if c<240 then c-224 else if c<248 then c-240 else 0
def Xk(c:Int):Bool:=decide (128≤c∧c<192)
def acc(s:Int):List Int→Int
 |[]=>s
 |c::r=>acc (s*64+c%64) r
def VM:List Int→Int×Nat
 |[]=>(-1,0)
 |c::r =>
  if Vd c=0∨r.length+1<Vd c then(-1,0)
  else if(r.take (Vd c-1)).all Xk=false then(-1,0)
  else if Ve (acc (Jd c) (r.take (Vd c-1)))=Vd c then(acc (Jd c) (r.take (Vd c-1)),Vd c)else(-1,0)
theorem fZ(c:Int)(r:List Int):VM (c::r) =
 if Vd c=0∨r.length+1<Vd c then(-1,0)
 else if(r.take (Vd c-1)).all Xk=false then(-1,0)
 else if Ve (acc (Jd c) (r.take (Vd c-1)))=Vd c then(acc (Jd c) (r.take (Vd c-1)),Vd c)else(-1,0):=rfl
def KC(l:List Int):Prop:=∀x∈l,0≤x∧x<256
theorem KC.take{l:List Int}(h:KC l)(n:Nat):KC (l.take n):=fun x hx=>h x (List.mem_of_mem_take hx)
theorem KC.drop{l:List Int}(h:KC l)(n:Nat):KC (l.drop n):=fun x hx=>h x (List.mem_of_mem_drop hx)
theorem KC.getD{l:List Int}(h:KC l)(i:Nat):0≤l.getD i 0∧l.getD i 0<256:=by
 by_cases hi:i<l.length
 ·have e:l.getD i 0=l[i]:=by simp[List.getD,hi]
  rw[e];exact h _ (List.getElem_mem hi)
 ·have e:l.getD i 0=0:=by simp[List.getD,List.getElem?_eq_none (show l.length≤i by omega)]
  rw[e];omega
theorem Qvj(n:Int):Ve n≤4:=by unfold Ve;repeat' split
                              all_goals omega
theorem Qsw{n:Int}(h:Ve n=1):0≤n∧n<128:=by
 unfold Ve at h;repeat' split at h
 all_goals omega
theorem Qsv{n:Int}(h:Ve n=2):128≤n∧n<2048:=by
 unfold Ve at h;repeat' split at h
 all_goals omega
theorem Qll{n:Int}(h:Ve n=3):2048≤n∧n<65536∧(n<55296∨57344≤n):=by
 unfold Ve at h;repeat' split at h
 all_goals omega
theorem Qo0{n:Int}(h:Ve n=4):65536≤n∧n<1114112:=by
 unfold Ve at h;repeat' split at h
 all_goals omega
theorem Qd0(n:Int):Ve n=0∨Ve n=1∨Ve n=2∨Ve n=3∨Ve n=4:=by have:=Qvj n;omega
theorem rF{n:Int}(h:0≤n)(h':n<128):Ve n=1:=by
 unfold Ve;rw[if_neg ω,if_pos h']
theorem enc1{n:Int}(h:Ve n=1):enc n=[n]:=by unfold enc;rw[if_pos h]
theorem enc2{n:Int}(h:Ve n=2):enc n=[192+n/64,128+n%64]:=by unfold enc;rw[if_neg ω,if_pos h]
theorem enc3{n:Int}(h:Ve n=3):enc n=[224+n/4096,128+n/64%64,128+n%64]:=by unfold enc;rw[if_neg ω,if_neg ω,if_pos h]
theorem enc4{n:Int}(h:Ve n=4):enc n=[240+n/262144,128+n/4096%64,128+n/64%64,128+n%64]:=by
 unfold enc;rw[if_neg ω,if_neg ω,if_neg ω,if_pos h]
theorem Q0f{n:Int}(h:Ve n=0):enc n=[]:=by unfold enc;rw[if_neg ω,if_neg ω,if_neg ω,if_neg ω]
theorem Yg(n:Int):(enc n).length=Ve n:=by
 rcases Qd0 n with h|h|h|h|h
 ·rw[Q0f h,h];rfl
 ·rw[enc1 h,h];rfl
 ·rw[enc2 h,h];rfl
 ·rw[enc3 h,h];rfl
 ·rw[enc4 h,h];rfl
theorem ê(c:Int):Vd c≤4:=by unfold Vd;repeat' split
                            all_goals omega
theorem yx{k:Int}(hk:Ve k≠0)(r:List Int):VM (enc k++r)=(k,Ve k):=by
 rcases Qd0 k with h|h|h|h|h
 ·exact absurd h hk
 ·rw[enc1 h,h];have hb:=Qsw h;have e1:Vd k=1:=by unfold Vd;rw[if_pos hb.2]
  have e2:Jd k=k:=by unfold Jd;rw[if_pos hb.2]
  simp[VM,e1,e2,acc,h]
 ·rw[enc2 h,h];have hb:=Qsv h;have e1:Vd (192+k/64)=2:=by unfold Vd;rw[if_neg ω,if_neg ω,if_pos ω]
  have e2:Jd (192+k/64)=k/64:=by unfold Jd;rw[if_neg ω,if_neg ω,if_pos ω];omega
  have e3:Xk (128+k%64)=true:=by unfold Xk;apply decide_eq_true;omega
  have e4:acc (k/64) [128+k%64]=k:=by simp only[acc];omega
  simp[VM,e1,e2,e3,e4,h]
 ·rw[enc3 h,h];have hb:=Qll h;have e1:Vd (224+k/4096)=3:=by unfold Vd;rw[if_neg ω,if_neg ω,if_neg ω,if_pos ω]
  have e2:Jd (224+k/4096)=k/4096:=by unfold Jd;rw[if_neg ω,if_neg ω,if_neg ω,if_pos ω];omega
  have e3:Xk (128+k%64)=true:=by unfold Xk;apply decide_eq_true;omega
  have e3':Xk (128+k/64%64)=true:=by unfold Xk;apply decide_eq_true;omega
  have e4:acc (k/4096) [128+k/64%64,128+k%64]=k:=by simp only[acc];omega
  simp[VM,e1,e2,e3,e3',e4,h]
 ·rw[enc4 h,h];have hb:=Qo0 h;have e1:Vd (240+k/262144)=4:=by unfold Vd;rw[if_neg ω,if_neg ω,if_neg ω,if_neg ω,if_pos ω]
  have e2:Jd (240+k/262144)=k/262144:=by unfold Jd;rw[if_neg ω,if_neg ω,if_neg ω,if_neg ω,if_pos ω];omega
  have e3:Xk (128+k%64)=true:=by unfold Xk;apply decide_eq_true;omega
  have e3':Xk (128+k/64%64)=true:=by unfold Xk;apply decide_eq_true;omega
  have dQ:Xk (128+k/4096%64)=true:=by unfold Xk;apply decide_eq_true;omega
  have e4:acc (k/262144) [128+k/4096%64,128+k/64%64,128+k%64]=k:=by simp only[acc];omega
  simp[VM,e1,e2,e3,e3',dQ,e4,h]
theorem Xl(c:Int):(Vd c=0∧(128≤c∧c<192∨248≤c))∨(Vd c=1∧Jd c=c∧c<128)∨(Vd c=2∧Jd c=c-192∧192≤c∧c<224)∨
 (Vd c=3∧Jd c=c-224∧224≤c∧c<240)∨(Vd c=4∧Jd c=c-240∧240≤c∧c<248):=by
 by_cases h1:c<128
 ·exact .inr (.inl ⟨by unfold Vd;rw[if_pos h1],by unfold Jd;rw[if_pos h1],h1⟩)
 by_cases h2:c<192
 ·exact .inl ⟨by unfold Vd;rw[if_neg h1,if_pos h2],.inl ⟨ω,h2⟩⟩
 by_cases h3:c<224
 ·exact .inr (.inr (.inl ⟨by unfold Vd;rw[if_neg h1,if_neg h2,if_pos h3],by unfold Jd;rw[if_neg h1,if_neg h2,if_pos h3],ω,h3⟩))
 by_cases h4:c<240
 ·exact .inr (.inr (.inr (.inl ⟨by unfold Vd;rw[if_neg h1,if_neg h2,if_neg h3,if_pos h4],by unfold Jd;rw[if_neg h1,if_neg h2,if_neg h3,if_pos h4],ω,h4⟩)))
 by_cases h5:c<248
 ·exact .inr (.inr (.inr (.inr ⟨by unfold Vd;rw[if_neg h1,if_neg h2,if_neg h3,if_neg h4,if_pos h5],by unfold Jd;rw[if_neg h1,if_neg h2,if_neg h3,if_neg h4,if_pos h5],ω,h5⟩)))
 ·exact .inl ⟨by unfold Vd;rw[if_neg h1,if_neg h2,if_neg h3,if_neg h4,if_neg h5],.inr ω⟩
theorem fS{c:Int}:Xk c=true↔128≤c∧c<192:=by unfold Xk;simp
theorem ia{l:List Int}(hl:KC l){k:Int}{n:Nat}(h:VM l=(k,n))(hn:n≠0):Ve k=n∧l=enc k++l.drop n:=by
 match l,hl,h with
 |[],_,h=>simp[VM]at h;omega
 |c::r,hl,h =>
  have hc:=hl c ψ;rw[fZ]at h;split at h
  ·simp at h;omega
  ·rename_i h1
   split at h
   ·simp at h;omega
   ·rename_i h2
    split at h
    ·rename_i h3
     simp only[Prod.mk.injEq]at h;obtain⟨rfl,rfl⟩:=h;refine⟨h3,?_⟩;rcases Xl c with⟨e,_⟩|⟨e,b,_⟩|⟨e,b,_⟩|⟨e,b,_⟩|⟨e,b,_⟩
     ·omega
     ·rw[e,b]at h3⊢;simp only[Nat.sub_self,List.take_zero,acc]at h3⊢;rw[enc1 h3];rfl
     ·rw[e,b]at h3⊢;rw[e]at h1 h2
      match r,h1,h2,h3 with
      |[],h1,_,_=>simp at h1
      |d::r',_,h2,h3=>simp[acc,fS]at h2 h3⊢;rw[enc2 h3];simp;omega
     ·rw[e,b]at h3⊢;rw[e]at h1 h2
      match r,h1,h2,h3 with
      |[],h1,_,_=>simp at h1
      |[_],h1,_,_=>simp at h1
      |d::d'::r',_,h2,h3=>simp[acc,fS]at h2 h3⊢;rw[enc3 h3];simp;omega
     ·rw[e,b]at h3⊢;rw[e]at h1 h2
      match r,h1,h2,h3 with
      |[],h1,_,_=>simp at h1
      |[_],h1,_,_=>simp at h1
      |[_,_],h1,_,_=>simp at h1
      |d::d'::d''::r',_,h2,h3=>simp[acc,fS]at h2 h3⊢;rw[enc4 h3];simp;omega
    ·simp at h;omega
theorem Qse{l:List Int}(h:(VM l).2=0):VM l=(-1,0):=by
 match l,h with
 |[],_=>rfl
 |c::r,h =>
  rw[fZ]at h⊢;split
  ·rfl
  ·rename_i h1
   rw[if_neg h1]at h;split
   ·rfl
   ·rename_i h2
    rw[if_neg h2]at h;split
    ·rename_i h3
     rw[if_pos h3]at h;simp at h;omega
    ·rfl
theorem Ó{l:List Int}(hl:KC l):(VM l).2≤l.length:=by
 rcases Nat.eq_zero_or_pos (VM l).2 with h|h
 ·omega
 ·have:=ia (k:=(VM l).1) (n:=(VM l).2) hl rfl ω;have h2:=congrArg List.length this.2;rw[List.length_append,Yg,this.1]at h2;omega
theorem pK(l:List Int):∀(s B:Int),0≤s→s<B→0≤acc s l∧acc s l<B*64 ^ l.length:=by
 induction l with
 |nil=>intro s B h0 h1;simp only[acc,List.length_nil,Int.pow_zero];omega
 |cons c r ih =>
  intro s B h0 h1;have:=ih (s*64+c%64) (B*64) ω ω;refine⟨this.1,?_⟩;have e:B*64*64 ^ r.length=B*64 ^ (r.length+1):=by rw[Int.mul_assoc,Int.pow_succ,Int.mul_comm 64]
  simp only[acc,List.length_cons];rw[←e];exact this.2
theorem Qt4(l:List Int)(c:Int):∀s,acc s (l++[c])=acc s l*64+c%64:=by
 induction l with
 |nil=>intro s;rfl
 |cons d r ih=>intro s;exact ih _
def ZI:List Int→List Int
 |[]=>[]
 |k::r=>enc k++ZI r
def Sg(l:List Int):Prop:=∀k∈l,Ve k≠0
theorem Qjr(a b:List Int):ZI (a++b)=ZI a++ZI b:=by
 induction a with
 |nil=>rfl
 |cons k r ih=>simp only[List.cons_append,ZI,ih,JZ]
theorem Qpl(a:List Int)(k:Int):ZI (a++[k])=ZI a++enc k:=by rw[Qjr];simp[ZI]
theorem Sg.nil:Sg []:=fun _ h=>by cases h
theorem Sg.snoc{l:List Int}(h:Sg l){k:Int}(hk:Ve k≠0):Sg (l++[k]):=fun x hx=>by
 rcases List.mem_append.1 hx with h' |h'
 ·exact h x h'
 ·simp at h';subst h';exact hk
def NF:Nat→List Int→List Int×Nat
 |0,_=>([],0)
 |f+1,l=>if(VM l).2=0 then([],0)else((VM l).1::(NF f (l.drop (VM l).2)).1,(VM l).2+(NF f (l.drop (VM l).2)).2)
def zF(l:List Int):List Int:=(NF l.length l).1
def bad(l:List Int):Nat:=(NF l.length l).2
theorem ŏ:∀(f:Nat)(l:List Int),KC l→l.length≤f→Sg (NF f l).1∧(NF f l).2≤l.length∧l=ZI (NF f l).1++l.drop (NF f l).2∧(ZI (NF f l).1).length=(NF f l).2∧VM (l.drop (NF f l).2)=(-1,0)
 |0,l,_,hf=>by
  have:l=[]:=List.eq_nil_of_length_eq_zero ω;subst this;exact⟨Sg.nil,Nat.le_refl _,rfl,rfl,rfl⟩
 |f+1,l,hl,hf=>by
  unfold NF;by_cases h0:(VM l).2=0
  ·rw[if_pos h0];exact⟨Sg.nil,Nat.zero_le _,rfl,rfl,Qse h0⟩
  ·rw[if_neg h0];have hs:=ia (k:=(VM l).1) (n:=(VM l).2) hl rfl h0;have hle:=Ó hl;have hlen:(l.drop (VM l).2).length≤f:=by rw[List.length_drop];omega
   obtain⟨a1,a2,a3,a4,a5⟩:=ŏ f (l.drop (VM l).2) (hl.drop _) hlen;rw[List.drop_drop]at a5;rw[List.drop_drop]at a3;rw[List.length_drop]at a2;generalize hr:NF f (l.drop (VM l).2)=q at *;generalize hq:VM l=p at *;refine⟨?_,by simp only;omega,?_,?_,?_⟩
   ·intro k hk;rcases List.mem_cons.1 hk with h|h
    ·subst h;omega
    ·exact a1 k h
   ·simp only[ZI,JZ];rw[←a3];exact hs.2
   ·simp only[ZI,List.length_append,Yg];omega
   ·exact a5
theorem ė{l:List Int}(hl:KC l):Sg (zF l)∧bad l≤l.length∧l=ZI (zF l)++l.drop (bad l)∧(ZI (zF l)).length=bad l∧VM (l.drop (bad l))=(-1,0) :=
 ŏ l.length l hl (Nat.le_refl _)
theorem r9:∀(a b r s:List Int),Sg a→Sg b→ZI a++r=ZI b++s→(VM r).2=0→(VM s).2=0→a=b∧r=s
 |[],[],r,s,_,_,h,_,_=>⟨rfl,h⟩
 |[],k::b,r,s,_,hb,h,hr,_=>by
  have hk:=hb k ψ;simp only[ZI,List.nil_append,JZ]at h;rw[h,yx hk]at hr;exact absurd hr hk
 |k::a,[],r,s,ha,_,h,_,hs=>by
  have hk:=ha k ψ;simp only[ZI,List.nil_append,JZ]at h;rw[←h,yx hk]at hs;exact absurd hs hk
 |k::a,m::b,r,s,ha,hb,h,hr,hs=>by
  have hk:=ha k ψ;have hm:=hb m ψ;simp only[ZI,JZ]at h;have e1:=yx hk (ZI a++r);have e2:=yx hm (ZI b++s);rw[h,e2]at e1;obtain⟨rfl,_⟩:m=k∧_:=by simpa using e1
  have h':=List.append_cancel_left h;obtain⟨rfl,rfl⟩:=r9 a b r s (fun x hx=>ha x (by simp[hx])) (fun x hx=>hb x (by simp[hx])) h' hr hs;exact⟨rfl,rfl⟩
theorem Qzc{l a:List Int}(hl:KC l){n:Nat}(ha:Sg a)(hn:n≤l.length)(h:ZI a=l.take n)(h0:(VM (l.drop n)).2=0):a=zF l∧n=bad l:=by
 obtain⟨b1,b2,b3,b4,b5⟩:=ė hl;have e:ZI a++l.drop n=ZI (zF l)++l.drop (bad l):=by rw[h,List.take_append_drop,←b3]
 obtain⟨h1,h2⟩:=r9 a (zF l) _ _ ha b1 e h0 (by rw[b5]);refine⟨h1,?_⟩;rw[←b4,←h1,h,List.length_take];omega
theorem Qzd{l:List Int}(hl:KC l):bad l≤l.length:=(ė hl).2.1
def RB(w:World)(B:Nat)(A:Option Addr)(xs:List Int):Prop :=
 KC xs∧(xs=[]∨∃b off,A=some ⟨b,off,none⟩∧b<B∧∀i,i<xs.length→w.cell? ⟨b,off+i,none⟩=some (ι .u8 (xs.getD i 0)))
section
variable {w w':World}{B B':Nat}{A:Option Addr}{xs:List Int}
theorem RB.Bu(h:RB w B A xs):KC xs:=h.1
theorem RB.keep(h:RB w B A xs)(hk:∀p:Addr,p.block<B→w'.cell? p=w.cell? p):RB w' B A xs :=
 ⟨h.1,by
  rcases h.2 with e|⟨b,off,e,hb,hc⟩
  ·exact .inl e
  ·exact .inr ⟨b,off,e,hb,fun i hi=>(hk _ hb).trans (hc i hi)⟩⟩
theorem RB.more(h:RB w B A xs)(hB:B≤B'):RB w B' A xs :=
 ⟨h.1,by
  rcases h.2 with e|⟨b,off,e,hb,hc⟩
  ·exact .inl e
  ·exact .inr ⟨b,off,e,ω,hc⟩⟩
theorem RB.below(h:RB w B A xs){B0:Nat}(hb:Below B0 w w')(hB:B≤B0):RB w' B A xs:=h.keep fun _ hp=>hb.cell ω
theorem RB.drop(h:RB w B A xs){k cap:Nat}(hk:k≤xs.length)(hc:xs.length≤cap) :
 RB w B (if cap=k then A else A.map (·.add k)) (xs.drop k) :=
 ⟨h.1.drop k,by
  by_cases hz:xs.length=k
  ·exact .inl (by rw[←hz,List.drop_length])
  ·rcases h.2 with e|⟨b,off,e,hb,hcell⟩
   ·rw[e]at hz hk;simp at hz hk;omega
   ·rw[if_neg ω];refine .inr ⟨b,off+k,?_,hb,fun i hi=>?_⟩
    ·rw[e];simp only[Option.map_some,Addr.add];split <;> simp_all
    ·rw[List.length_drop]at hi;rw[Nat.add_assoc,hcell (k+i) ω];simp[List.getD,List.getElem?_drop]⟩
theorem RB.cell(h:RB w B A xs)(hn:xs≠[]):∃b off,A=some ⟨b,off,none⟩∧b<B∧∀i,i<xs.length→w.cell? ⟨b,off+i,none⟩=some (ι .u8 (xs.getD i 0)):=by
 rcases h.2 with e|h'
 ·exact absurd e hn
 ·exact h'
end
theorem Qrp{P:Program}(w:World)(src dst e:TypeId)(hs:P.underlying src=some (.slice e))(he:P.underlying e=some (.int .u8))(hd:P.underlying dst=some .string)
 {B:Nat} {A:Option Addr} {xs:List Int} (h:RB w B A xs) (c:Nat):(convert src dst (ς A xs.length c)).run P w=.ok (σ (strOfNums xs)) w:=by
 rcases h.2 with e0|⟨b,off,e0,_,hc⟩
 ·subst e0;rcases A with _|a
  ·exact run_convert_bytes_nil w src e hs he _ c dst hd
  ·rw[run_convert_bytes_string w src dst e _ _ c hs he hd];rw[run_bytesToString w a _ c [] (by simp[loadCells,loadCellsFrom])];rfl
 ·subst e0;exact run_convert_bytes_arg w src e hs he b off _ c xs rfl hc dst hd
theorem yt(n:Nat)(h:n<256):(UInt8.ofNat n).toNat=n:=by simp;omega
theorem U9{a b:List Int}(ha:KC a)(hb:KC b)(h:strOfNums a=strOfNums b):a=b:=by
 have h1:a.map (fun n=>UInt8.ofNat n.toNat)=b.map (fun n=>UInt8.ofNat n.toNat):=by
  have:=congrArg (fun s:ByteArray=>s.data.toList) h;simpa[strOfNums]using this
 clear h
 induction a generalizing b with
 |nil=>cases b with
  |nil=>rfl
  |cons y b=>simp at h1
 |cons x a ih =>
  cases b with
  |nil=>simp at h1
  |cons y b =>
   simp only[List.map_cons,List.cons.injEq]at h1;have hx:=ha x ψ;have hy:=hb y ψ;have e:x.toNat=y.toNat:=by have:=congrArg UInt8.toNat h1.1;rw[yt x.toNat ω,yt y.toNat ω]at this;exact this
   have exy:x=y:=ω
   rw[exy,ih (fun z hz=>ha z (by simp[hz])) (fun z hz=>hb z (by simp[hz])) h1.2]
theorem Qha:∀c:Fin 256,(192≤c.val→c.val<224→bits .andNot .u8 (c.val:Int) 192=(c.val:Int)-192)∧(224≤c.val→c.val<240→bits .andNot .u8 (c.val:Int) 224=(c.val:Int)-224)∧
 (240≤c.val→c.val<248→bits .andNot .u8 (c.val:Int) 240=(c.val:Int)-240)∧((bits .andNot .u8 (c.val:Int) 63 != 128)=!Xk (c.val:Int)):=by decide +kernel
theorem Ŕ(c:Int)(h0:0≤c)(h1:c<256):(192≤c→c<224→bits .andNot .u8 c 192=c-192)∧(224≤c→c<240→bits .andNot .u8 c 224=c-224)∧
 (240≤c→c<248→bits .andNot .u8 c 240=c-240)∧((bits .andNot .u8 c 63 != 128)=!Xk c):=by
 obtain⟨n,rfl⟩:=Int.eq_ofNat_of_zero_le h0;obtain⟨a,b,d,e⟩:=Qha ⟨n,ω⟩;exact⟨fun x y=>a (by simp only;omega) (by simp only;omega),fun x y=>b (by simp only;omega) (by simp only;omega),fun x y=>d (by simp only;omega) (by simp only;omega),e⟩
theorem Jj(c:Int)(w:World)(h0:0≤c)(h1:c<256) :
 Calls prog 159 #[ι .u8 c] w fun e w'=>e=ρ (.tuple #[ι γ (Vd c),ι .i32 (Jd c)])∧w=w':=by
 obtain⟨a1,a2,a3,_⟩:=Ŕ c h0 h1;have hN:Vd c=if c<128 then 1 else if c<192 then 0 else if c<224 then 2 else if c<240 then 3 else if c<248 then 4 else 0:=rfl
 have hB:Jd c=if c<128 then c else if c<192 then 0 else if c<224 then c-192 else if c<240 then c-224 else if c<248 then c-240 else 0:=rfl
 generalize Vd c=n at *;generalize Jd c=s at *;have HN:=Lib.hid hN;clear hN;have HB:=Lib.hid hB;clear hB;by_cases c1:c<128
 ·rw[if_pos c1]at HN HB;obtain rfl:=HN.out;obtain rfl:=HB.out;clear HN HB a1 a2 a3;go_enter func159,ntmps159;go_wp2
  go_ret2
  exact⟨rfl,rfl⟩
 rw[if_neg c1]at HN HB;by_cases c2:c<192
 ·rw[if_pos c2]at HN HB;obtain rfl:=HN.out;obtain rfl:=HB.out;clear HN HB a1 a2 a3;go_enter func159,ntmps159;go_wp2
  go_ret2
  exact⟨rfl,rfl⟩
 rw[if_neg c2]at HN HB;by_cases c3:c<224
 ·rw[if_pos c3]at HN HB;obtain rfl:=HN.out;obtain rfl:=HB.out;clear HN HB a2 a3;have b1:=a1 ω c3;clear a1;go_enter func159,ntmps159;go_wp2
  go_ret2
  exact⟨rfl,rfl⟩
 rw[if_neg c3]at HN HB;by_cases c4:c<240
 ·rw[if_pos c4]at HN HB;obtain rfl:=HN.out;obtain rfl:=HB.out;clear HN HB a1 a3;have b1:=a2 ω c4;clear a2;go_enter func159,ntmps159;go_wp2
  go_ret2
  exact⟨rfl,rfl⟩
 rw[if_neg c4]at HN HB;by_cases c5:c<248
 ·rw[if_pos c5]at HN HB;obtain rfl:=HN.out;obtain rfl:=HB.out;clear HN HB a1 a2;have b1:=a3 ω c5;clear a3;go_enter func159,ntmps159;go_wp2
  go_ret2
  exact⟨rfl,rfl⟩
 rw[if_neg c5]at HN HB;obtain rfl:=HN.out;obtain rfl:=HB.out;clear HN HB a1 a2 a3;go_enter func159,ntmps159;go_wp2
 go_ret2
 exact⟨rfl,rfl⟩
theorem r7{k:IntKind}{a b:Int}(h:a=b):ρ (ι k a)=ρ (ι k b):=by rw[h]
theorem Ep(n:Int)(w:World) :
 Calls prog 160 #[ι .i32 n] w fun e w'=>e=ρ (ι γ (Ve n))∧w=w':=by
 have hN:Ve n=if n<0 then 0 else if n<128 then 1 else if n<2048 then 2 else if 55296≤n∧n<57344 then 0 else if n<65536 then 3 else if n<1114112 then 4 else 0:=rfl
 generalize Ve n=l at *;have HN:=Lib.hid hN;clear hN;by_cases c1:n<0
 ·rw[if_pos c1]at HN;obtain rfl:=HN.out;clear HN;go_enter func160,ntmps160;go_wp2;go_ret;exact⟨rfl,rfl⟩
 rw[if_neg c1]at HN;by_cases c2:n<128
 ·rw[if_pos c2]at HN;obtain rfl:=HN.out;clear HN;go_enter func160,ntmps160;go_wp2;go_ret;exact⟨rfl,rfl⟩
 rw[if_neg c2]at HN;by_cases c3:n<2048
 ·rw[if_pos c3]at HN;obtain rfl:=HN.out;clear HN;go_enter func160,ntmps160;go_wp2;go_ret;exact⟨rfl,rfl⟩
 rw[if_neg c3]at HN;by_cases c4:55296≤n∧n<57344
 ·rw[if_pos c4]at HN;obtain rfl:=HN.out;clear HN;obtain⟨d1,d2⟩:=c4;go_enter func160,ntmps160;go_wp2;go_ret;exact⟨rfl,rfl⟩
 rw[if_neg c4]at HN;have x8:n<55296∨57344≤n:=ω
 by_cases c5:n<65536
 ·rw[if_pos c5]at HN;obtain rfl:=HN.out;clear HN c4;rcases x8 with c4|c4
  all_goals
   go_enter func160,ntmps160;go_wp2;go_ret;exact⟨rfl,rfl⟩
 rw[if_neg c5]at HN;clear c4 x8;by_cases c6:n<1114112
 ·rw[if_pos c6]at HN;obtain rfl:=HN.out;clear HN;go_enter func160,ntmps160;go_wp2;go_ret;exact⟨rfl,rfl⟩
 rw[if_neg c6]at HN;obtain rfl:=HN.out;clear HN;go_enter func160,ntmps160;go_wp2;go_ret;exact⟨rfl,rfl⟩
theorem Qp1{c:Int}{n:Nat}{r:List Int}{k:Nat}(h0:0≤c)(hn:Vd c=n)(hk:k+1<n):0≤acc (Jd c) (r.take k)∧acc (Jd c) (r.take k)<32768:=by
 have hl:(r.take k).length≤k:=List.length_take_le _ _;rcases Xl c with⟨e,_⟩|⟨e,b,_⟩|⟨e,b,_⟩|⟨e,b,_⟩|⟨e,b,_⟩
 ·omega
 ·omega
 ·have:=pK (r.take k) (Jd c) 32 ω ω;have e0:(r.take k).length=0:=ω
  rw[e0]at this;omega
 ·have:=pK (r.take k) (Jd c) 16 ω ω;have e0:(r.take k).length=0∨(r.take k).length=1:=ω
  rcases e0 with e0|e0 <;> rw[e0]at this <;> omega
 ·have:=pK (r.take k) (Jd c) 8 ω ω;have e0:(r.take k).length=0∨(r.take k).length=1∨(r.take k).length=2:=ω
  rcases e0 with e0|e0|e0 <;> rw[e0]at this <;> omega
theorem Qwz{c s:Int}{n:Nat}{r:List Int}(h0:0≤c)(h1:c<256)(hn:Vd c=n)(hs:Jd c=s):0≤acc s (r.take (n-1))∧acc s (r.take (n-1))<2147483648:=by
 have hl:(r.take (n-1)).length≤n-1:=List.length_take_le _ _;have hle:n≤4:=by rw[←hn];exact ê c
 have hb:0≤s∧s<256:=by
  rw[←hs];unfold Jd;repeat' split
  all_goals omega
 have:=pK (r.take (n-1)) s 256 hb.1 hb.2;have e0:(r.take (n-1)).length=0∨(r.take (n-1)).length=1∨(r.take (n-1)).length=2∨(r.take (n-1)).length=3:=ω
 rcases e0 with e0|e0|e0|e0 <;> rw[e0]at this <;> omega
theorem Qou(b off:Nat)(cap:Nat)(c:Int)(r:List Int)(w:World)(hb:KC (c::r))(hcap:r.length+1≤cap)(QT:cap≤maxLen)
 (hcell:∀i,i<r.length+1→w.cell? ⟨b,off+i,none⟩=some (ι .u8 ((c::r).getD i 0))) :
 Calls prog 152 #[ς (some ⟨b,off,none⟩) (r.length+1) cap] w fun e w'=>e=ρ (.tuple #[ι γ (VM (c::r)).1,ι γ ((VM (c::r)).2:Nat)])∧w=w':=by
 have hc:=hb c ψ;unfold maxLen at QT;have hc0:w.cell? ⟨b,off,none⟩=some (ι .u8 c):=by simpa using hcell 0 ω
 have UZ:=Jj c w hc.1 hc.2;obtain⟨n,hn⟩:∃n,Vd c=n:=⟨_,rfl⟩;obtain⟨s,hs⟩:∃s,Jd c=s:=⟨_,rfl⟩;rw[hn,hs]at UZ;have Ie:=QA UZ;clear UZ;have hle:n≤4:=by rw[←hn];exact ê c
 have hx:=fZ c r;rw[hn,hs]at hx;have Hn:=QA hn;have Hs:=QA hs;clear hn hs;by_cases h0:n=0
 ·subst h0;rw[if_pos (.inl rfl)]at hx;rw[hx];clear hx Hn Hs;have hr:((r.length:Int)+1==0)=false:=by rw[beq_eq_false_iff_ne];omega
  go_enter func152,ntmps152;go_wp2_with (go_at_call 159;refine Ie.out.mono ?_;rintro e w' ⟨rfl,rfl⟩)
  go_ret2
  exact⟨rfl,rfl⟩
 have hr:((r.length:Int)+1==0)=false:=by rw[beq_eq_false_iff_ne];omega
 have hn0:((n:Int)==0)=false:=by rw[beq_eq_false_iff_ne];omega
 by_cases h1:r.length+1<n
 ·rw[if_pos (.inr h1)]at hx;rw[hx];clear hx Hn Hs;go_enter func152,ntmps152;go_wp2_with (go_at_call 159;refine Ie.out.mono ?_;rintro e w' ⟨rfl,rfl⟩)
  go_ret2
  exact⟨rfl,rfl⟩
 rw[if_neg ω]at hx;have Hx:=QA hx;clear hx;have Wj:n≤r.length+1:=ω
 have Ri:1≤n:=ω
 have Q2d:(n:Int)≤(r.length:Int)+1:=ω
 by_cases xO:cap=1
 ·subst xO;obtain rfl:r=[]:=List.eq_nil_of_length_eq_zero ω;simp only[List.length_nil,Nat.zero_add]at Wj;obtain rfl:n=1:=ω
  have hres:VM [c]=(c,1):=by
   have hcs:=Xl c;rw[Hn.out]at hcs;have h3:c<128:=ω
   have:=yx (k:=c) (by rw[rF hc.1 h3];omega) [];rw[enc1 (rF hc.1 h3),rF hc.1 h3]at this;exact this
  have hsc:s=c:=by have hcs:=Xl c;rw[Hn.out,Hs.out]at hcs;omega
  subst hsc;have h3:s<128:=by have hcs:=Xl s;rw[Hn.out]at hcs;omega
  obtain⟨s0,s1⟩:=hc;have Tm:=QA hres;clear hres;have hL:=Ep s w;rw[rF s0 h3]at hL;have HL:=QA hL;clear hL;go_enter func152,ntmps152;go_wp2_with (go_at_call 159;refine Ie.out.mono ?_;rintro e w' ⟨rfl,rfl⟩)
  go_loop [5,7,30] (fun sg _ i=>i=ι γ 0∧sg=ι .i32 s) (fun _ _ _=>0)
  case atStart=>exact⟨rfl,rfl⟩
  case round =>
   obtain⟨rfl,rfl⟩:=hrel;go_wp2_with (go_at_call 160;refine HL.out.mono ?_;rintro e w' ⟨rfl,rfl⟩)
   go_ret2
   rw[Tm.out];exact⟨rfl,rfl⟩
 go_enter func152,ntmps152;go_wp2_with (go_at_call 159;refine Ie.out.mono ?_;rintro e w' ⟨rfl,rfl⟩)
 go_loop [5,7,30] (fun sg _ i=>∃k:Nat,k≤n-1∧i=ι γ k∧sg=ι .i32 (acc s (r.take k))∧(r.take k).all Xk=true) (fun _ _ i=>(n-1)-(intOf i).toNat)
 case atStart=>exact⟨0,Nat.zero_le _,rfl,rfl,rfl⟩
 case round =>
  obtain⟨k,hk,rfl,rfl,hall⟩:=hrel;by_cases hlt:k<n-1
  ·have hkr:k<r.length:=ω
   have hd:=hb (r.getD k 0) (by simp[List.getD,hkr]);have WK:w.cell? ⟨b,off+1+k,none⟩=some (ι .u8 (r.getD k 0)):=by have:=hcell (k+1) ω;rw[show off+(k+1)=off+1+k from by omega]at this;rw[this];simp[List.getD]
   have htk:r.take (k+1)=r.take k++[r.getD k 0]:=by rw[List.take_succ_eq_append_getElem hkr];simp[List.getD,hkr]
   have hS:0≤acc s (r.take k)∧acc s (r.take k)<32768:=by have:=Qp1 (r:=r) hc.1 Hn.out (k:=k) ω;rw[Hs.out]at this;exact this
   have Bl:=Qt4 (r.take k) (r.getD k 0) s;rw[←htk]at Bl;obtain⟨_,_,_,xU⟩:=Ŕ _ hd.1 hd.2;have xX:(r.take (k+1)).all Xk=Xk (r.getD k 0):=by rw[htk,List.all_append,hall];simp
   generalize I3:r.getD k 0=d at *;generalize O3:acc s (r.take k)=S at *;have Hsn:=QA Bl;have Hde:=QA I3;have HSe:=QA O3;have Htk:=QA htk;have Q3h:=QA hall;have yO:=QA xX;clear Bl I3 O3 htk hall xX;obtain⟨Rl,hS1⟩:=hS;obtain⟨hd0,hd1⟩:=hd;by_cases Nv:Xk d=true
   ·rw[Nv]at xU;go_wp2
    go_round
    case rel=>exact⟨k+1,ω,by go_num,by rw[Hsn.out],by rw[yO.out,Nv]⟩
    case measure=>simp[intOf];omega
   ·have xL:Xk d=false:=by simpa using Nv
    rw[xL]at xU;have hres:VM (c::r)=(-1,0):=by
     rw[Hx.out,if_pos];have e:r.take (n-1)=r.take (k+1)++(r.drop (k+1)).take (n-1-(k+1)):=by rw[←List.take_append_drop (k+1) (r.take (n-1)),List.take_take,List.drop_take,Nat.min_eq_left ω]
     rw[e,List.all_append,yO.out,xL,Bool.false_and]
    have Tm:=QA hres;clear hres Nv;go_wp2
    go_ret2
    rw[Tm.out];exact⟨rfl,rfl⟩
  ·obtain rfl:k=n-1:=ω
   have hS:0≤acc s (r.take (n-1))∧acc s (r.take (n-1))<2147483648:=Qwz hc.1 hc.2 Hn.out Hs.out;have hres:=Hx.out;rw[if_neg (by rw[hall];simp)]at hres;generalize acc s (r.take (n-1))=S at *;clear hall;obtain⟨Rl,hS1⟩:=hS;by_cases hlen:Ve S=n
   ·rw[if_pos hlen]at hres;have Tm:=QA hres;clear hres;have hL:=Ep S w;rw[hlen]at hL;have HL:=QA hL;clear hL hlen;have hnn:((n:Int) != n)=false:=ψ
    go_wp2_with (go_at_call 160;refine HL.out.mono ?_;rintro e w' ⟨rfl,rfl⟩)
    go_ret2
    rw[Tm.out];exact⟨rfl,rfl⟩
   ·rw[if_neg hlen]at hres;have Tm:=QA hres;clear hres;have hL:=Ep S w;have hnn:((Ve S:Int) != n)=true:=by rw[bne_iff_ne];omega
    generalize Ve S=L at *;have HL:=QA hL;clear hL hlen;go_wp2_with (go_at_call 160;refine HL.out.mono ?_;rintro e w' ⟨rfl,rfl⟩)
    go_ret2
    rw[Tm.out];exact⟨rfl,rfl⟩
theorem Qsk(A:Option Addr)(cap:Nat)(w:World) :
 Calls prog 152 #[ς A 0 cap] w fun e w'=>e=ρ (.tuple #[ι γ (-1),ι γ 0])∧w=w':=by
 go_enter func152,ntmps152;go_wp2
 go_ret2
 exact⟨rfl,rfl⟩
theorem fW(A:Option Addr)(cap:Nat)(xs:List Int)(w:World)(B:Nat)(h:RB w B A xs)(hcap:xs.length≤cap)(QT:cap≤maxLen) :
 Calls prog 152 #[ς A xs.length cap] w fun e w'=>e=ρ (.tuple #[ι γ (VM xs).1,ι γ ((VM xs).2:Nat)])∧w=w':=by
 cases xs with
 |nil=>exact Qsk A cap w
 |cons c r=>obtain⟨b,off,rfl,_,hc⟩:=h.cell ψ;exact Qou b off cap c r w h.Bu hcap QT hc
theorem below_drewN{B:Nat}{a w:World}(h:Below B a w)(n:Nat):Below B a (w.drewN n):=⟨h.os,h.tape,h.output,h.size,h.block⟩
theorem Qc2{a b:ByteArray}(h:a.toList=b.toList):a=b:=by
 rw[ByteArray.toList_eq,ByteArray.toList_eq]at h;cases a;cases b;simp at h;rw[h]
theorem Qu8(A:Option Addr)(n cap:Nat)(xs:List Int)(w:World)(B:Nat)(h:RB w B A xs)(hn:xs.length=n)(hcap:n≤cap)(QT:cap≤maxLen) :
 Calls Tryz.prog 152 #[ς A n cap] w fun e w'=>e=ρ (.tuple #[.int γ (VM xs).1,.int γ ((VM xs).2:Nat)])∧w=w':=by
 subst hn;exact fW A cap xs w B h hcap QT
theorem Qn2{xs ks:List Int}{k:Nat}(hb:KC xs)(h1:Sg ks)(h2:ZI ks=xs.take k)(h0:(VM (xs.drop k)).2≠0)(hk:k≤xs.length) :
 k+(VM (xs.drop k)).2≤xs.length∧Sg (ks++[(VM (xs.drop k)).1])∧ZI (ks++[(VM (xs.drop k)).1])=xs.take (k+(VM (xs.drop k)).2):=by
 obtain⟨e1,e2⟩:=ia (k:=(VM (xs.drop k)).1) (n:=(VM (xs.drop k)).2) (hb.drop k) rfl h0;have hle:=Ó (hb.drop k);rw[List.length_drop]at hle;refine⟨ω,h1.snoc ω,?_⟩;rw[Qpl,h2,List.take_add]
 congr 1
 generalize VM (xs.drop k)=p at *;rw[e2,List.take_append_of_le_length (by rw[Yg];omega),List.take_of_length_le (by rw[Yg];omega)]
theorem Qtz(k:Int)(w:World):Calls Tryz.prog 142 #[ι γ k] w fun e w'=>e = ρ (.tuple #[])∧w=w':=by
 go_enter Tryz.func142,Tryz.ntmps142;go_wp2
 go_end0
 exact⟨rfl,rfl⟩
theorem Qws(A:Option Addr)(n cap:Nat)(xs:List Int)(w:World)(B:Nat)(h:RB w B A xs)(hn:xs.length=n)(hcap:n≤cap)(QT:cap≤maxLen) :
 Calls Tryz.prog 133 #[ς A n cap] w fun e w'=>e=ρ (ι γ (bad xs))∧w=w':=by
 have hB:=QA h.Bu;have Hn:=QA hn;clear hn;have h:=QA h;unfold maxLen at QT;go_enter Tryz.func133,Tryz.ntmps133;go_wp2
 go_step3
 go_wp2
 go_step3
 go_wp2
 go_loop [5,6,7] (fun at_ _ _=>∃(k:Nat)(ks:List Int),k≤n∧at_=ι γ k∧Hid (Sg ks∧ZI ks=xs.take k)) (fun at_ _ _=>n-(intOf at_).toNat)
 case atStart=>exact⟨0,[],Nat.zero_le _,rfl,Sg.nil,rfl⟩
 case round =>
  obtain⟨k,ks,hk,rfl,hks⟩:=hrel;have hstep:Hid ((VM (xs.drop k)).2=0→k=bad xs):=fun h0=>(Qzc hB.out hks.out.1 (by rw[Hn.out];exact hk) hks.out.2 h0).2
  have Pb:Hid ((VM (xs.drop k)).2≠0→k+(VM (xs.drop k)).2≤n∧Sg (ks++[(VM (xs.drop k)).1])∧ZI (ks++[(VM (xs.drop k)).1])=xs.take (k+(VM (xs.drop k)).2)):=fun h0=>by
   have:=Qn2 hB.out hks.out.1 hks.out.2 h0 (by rw[Hn.out];exact hk);rw[Hn.out]at this;exact this
  have hC:∀A',(A'=if cap=k then A else A.map (·.add k))→Calls Tryz.prog 152 #[ς A' (n-k) (cap-k)] w fun e w'=>e = ρ (.tuple #[ι γ (VM (xs.drop k)).1,ι γ ((VM (xs.drop k)).2:Nat)])∧w=w':=fun A' hA=>by
   rw[hA];exact Qu8 _ (n-k) (cap-k) (xs.drop k) w _ (h.out.drop (by rw[Hn.out];exact hk) (by rw[Hn.out];omega)) (by rw[List.length_drop,Hn.out]) ω (by unfold maxLen;omega)
  generalize VM (xs.drop k)=p at *;obtain⟨sg,m⟩:=p;have HC:=QA hC;clear hC;by_cases h0:m=0
  ·subst h0;have hend:=QA (hstep.out rfl);clear hstep Pb hks;by_cases WK:cap=k
   ·have UO:=QA (HC.out A (by rw[if_pos WK]));have cH:cap-k=0:=ω
    rw[cH]at UO;go_wp2_with (go_at_call 152;refine UO.out.mono ?_;rintro e w' ⟨rfl,rfl⟩);rw[Exit.noGoto_ret];go_wp2;go_ret;rw[←hend.out];exact⟨rfl,rfl⟩
   ·have UO:=QA (HC.out _ (by rw[if_neg WK]));go_wp2_with (go_at_call 152;refine UO.out.mono ?_;rintro e w' ⟨rfl,rfl⟩);rw[Exit.noGoto_ret];go_wp2;go_ret;rw[←hend.out];exact⟨rfl,rfl⟩
  ·have hm0:((m:Int)==0)=false:=by rw[beq_eq_false_iff_ne];omega
   obtain⟨EJ,hm2⟩:=Pb.out h0;have HM:=QA hm2;clear hm2 hstep Pb;have WK:¬cap=k:=ω
   have UO:=QA (HC.out _ (by rw[if_neg WK]));go_wp2_with (go_at_call 152;refine UO.out.mono ?_;rintro e w' ⟨rfl,rfl⟩);refine(Qtz _ _).mono ?_;rintro e w' ⟨rfl,rfl⟩;go_wp2
   go_round
   case rel=>exact⟨k+m,ks++[sg],ω,by go_num,HM.out⟩
   case measure=>simp[intOf];omega
theorem Zq:(Tryz.prog.info? 3).map (fun i=>(i.zero,i.size,i.bytes))=some (some (ι γ 0),1,8):=χ
theorem Ť{w:World}{base:Nat}{e:TypeId}{size:Nat}{v:Value}{n:Nat}{xs:List Value}(h:w.ownsRow base e size v n xs):∃a cap,v=ς a n cap∧n≤cap∧cap≤maxLen:=by
 rcases h.2 with⟨hv,h0⟩|⟨g,cap,_,hv,_,_,h1,h2,_⟩
 ·exact⟨none,0,by rw[hv,h0],ω,by unfold maxLen;omega⟩
 ·exact⟨_,cap,hv,h1,h2⟩
theorem ĳ{w:World}{base base':Nat}{e:TypeId}{size:Nat}{v:Value}{n:Nat}{xs:List Value}(h:w.ownsRow base e size v n xs)(hb:base'≤base):w.ownsRow base' e size v n xs :=
 ⟨h.1,by
  rcases h.2 with h' |⟨g,cap,cur,a,b,c⟩
  ·exact .inl h'
  ·exact .inr ⟨g,cap,cur,a,ω,c⟩⟩
section
variable {w w':World}{base:Nat}{e:TypeId}{size:Nat}{v:Value}{n:Nat}{vs:List Value}
theorem YW(h:w.ownsRow base e size v n vs){B:Nat}(hb:Below B w w')(hB:w.heap.size≤B):w'.ownsRow base e size v n vs :=
 ⟨h.1,by
  rcases h.2 with h' |⟨g,cap,cur,a,b,hg,r⟩
  ·exact .inl h'
  ·exact .inr ⟨g,cap,cur,a,b,(hb.block g (by have:=lt_of_block hg;omega)).trans hg,r⟩⟩
end
def RI(w:World)(B:Nat)(A:Option Addr)(xs:List Int):Prop :=
 xs=[]∨∃b off,A=some ⟨b,off,none⟩∧b<B∧∀i,i<xs.length→w.cell? ⟨b,off+i,none⟩=some (ι γ (xs.getD i 0))
