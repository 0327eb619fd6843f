import Derived.Test.YtnbpdffdnphbeaaGreatDoorCkErr2
namespace Go.Proofs.YtnbpdffdnphbeaaGreatDoor
def cZ(us:List zJ):Nat->Nat->List Bs->List Bs
 | 0,_,acc=>acc
 | n+1,i,acc=>cZ us n (i+1) (if cA (uA us i) 0=zW/\yF us zW 3 (tA (uA us i) 3)=(i:Int) then acc++[tA (uA us i) 3] else acc)
def tY(us:List zJ):List Bs:=cZ us us.length 0 []
def sO(us:List zJ):Nat->Nat->List Bs->List Bs
 | 0,_,acc=>acc
 | n+1,i,acc=>sO us n (i+1) (if cA (uA us i) 0=zW then acc++[tA (uA us i) 1] else acc)
def pZ(us:List zJ):List Bs:=sO us us.length 0 []
def J5(u:zJ)(d:Bs)(k:Nat):Bool:=decide (cA u k=yP)&&(decide (tA u k=d)&&(decide (k<iW u) || decide (cA u (k-1)=[104,97,115])))
def QI(u:zJ)(d:Bs):Nat->Nat->Bool
 | 0,_=>false
 | n+1,k=>J5 u d k || QI u d n (k+1)
def yq(c d:Bs)(u:zJ):Bool:=decide (cA u 0=zW)&&(decide (tA u 3=c)&&QI u d (u.length-5) 5)
def bK(us:List zJ)(c d:Bs):Bool:=us.any (yq c d)
def yh(x y:Bs)(u:zJ):Bool:=decide (cA u 0=tW)&&(decide (tA u 1=x)&&decide (tA u 2=y))
def sJ(us:List zJ)(x y:Bs):Bool:=us.any (yh x y)
def nO(us:List zJ)(rules:Bool)(x y:Bs):Bool:=match rules with|true=>sJ us x y|false=>bK us x y
def kW(us:List zJ)(rules:Bool)(names:List Bs)(i k:Nat):Bool:=nO us rules (names.getD i []) (names.getD k [])
def Y6(us:List zJ)(rules:Bool):List Bs:=match rules with|true=>pZ us|false=>tY us
def dZ(us:List zJ)(rules:Bool):Bool:=wG (kW us rules (Y6 us rules)) (Y6 us rules).length
def zF3(c d:Bs)(x:zH):Bool:=decide (x.kind=3)&&(decide (x.conc=c)&&((x.sum.flatMap sE).any (fun y=>decide (y.2=d)) || (jV x.nd).any (fun y=>decide (y.1=1)&&decide (y.2=d))))
def zDO(x y:Bs)(l:zH):Bool:=decide (l.kind=4)&&(decide (l.name=x)&&decide (l.lower=y))
theorem DT(u:zJ)(d:Bs)(n:Nat):∀k,iW u<k->k+n=u.length->QI u d n k=(qN (cA u (k-1)) (u.drop k) []).any (fun y=>decide (y.1=1)&&decide (y.2=d)):=by
 induction n with
 | zero=>intro k _ h;rw[List.drop_eq_nil_of_le (by omega)];rfl
 | succ n ih =>
   intro k hk h;have zFY:k<u.length:=by omega
   rw[zO u k zFY,qN,QI,Xn,ih (k+1) (by omega) (by omega),show k+1-1=k by omega,List.any_append];show (J5 u d k || _)=((if cA u k=yP then [(mT (cA u (k-1)) (CD u k),tA u k)] else []).any _ || (qN (cA u k) (u.drop (k+1)) []).any _);congr 1
   unfold J5;rw[decide_eq_false (show ¬k<iW u by omega),Bool.false_or];by_cases hc:cA u k=yP
   ·rw[if_pos hc,decide_eq_true hc]
    have e:decide (mT (cA u (k-1)) (CD u k)=1)=decide (cA u (k-1)=[104,97,115]):=by
     unfold mT;by_cases hh:cA u (k-1)=[104,97,115]
     ·rw[if_pos hh,decide_eq_true hh];rfl
     ·rw[if_neg hh,decide_eq_false hh];split <;> rfl
    simp only[List.any_cons,List.any_nil,Bool.or_false,Bool.true_and,e];exact Bool.and_comm _ _
   ·rw[if_neg hc,decide_eq_false hc];rfl
theorem zAI(u:zJ)(d:Bs){w:Nat}(hw:iW u=w)(hwl:w<u.length)(n:Nat):∀k,k+n=w->QI u d (u.length-k) k=((cF ((u.take w).drop k)).any (fun y=>decide (y.2=d)) || QI u d (u.length-w) w):=by
 induction n with
 | zero=>intro k h;obtain rfl:k=w:=by omega
         rw[List.drop_eq_nil_of_le (by rw[List.length_take];omega)];rfl
 | succ n ih =>
   intro k h;have zFY:k<(u.take w).length:=by rw[List.length_take];omega
   have e0:(u.take w).getD k (0,[])=u.getD k (0,[]):=by rw[List.getD,List.getD,List.getElem?_take_of_lt (by omega)]
   rw[show u.length-k=(u.length-(k+1))+1 by omega,QI,ih (k+1) (by omega),zO (u.take w) k zFY,e0,cF,List.any_append,<-Bool.or_assoc];congr 2
   show J5 u d k=(if cA u k=yP then [(0,tA u k)] else []).any _;unfold J5;rw[decide_eq_true (show k<iW u by omega),Bool.true_or,Bool.and_true];by_cases hc:cA u k=yP
   ·rw[if_pos hc,decide_eq_true hc];simp
   ·rw[if_neg hc,decide_eq_false hc];rfl
theorem GD(u:zJ):∀(k j:Nat),mN u k=some j->k<=j/\cA u (j-k)=xY:=by
 induction u with
 | nil=>intro k j h;simp[mN]at h
 | cons t r ih =>
   intro k j h;rw[mN]at h;split at h
   ·rename_i ht
    obtain rfl:=Option.some.inj h;exact⟨Nat.le_refl _,by rw[Nat.sub_self];exact ht⟩
   ·obtain⟨h1,h2⟩:=ih (k+1) j h
    refine⟨by omega,?_⟩;rw[show j-k=(j-(k+1))+1 by omega];exact h2
theorem CE{x:zH}{u:zJ}(h:LT x u)(c d:Bs):yq c d u=zF3 c d x:=by
 unfold yq zF3;rw[decide_eq_decide.2 h.k3];by_cases hk:cA u 0=zW
 ·obtain⟨w,hw⟩:=h.rule hk
  have h1:=hw.wlo;have h2:=hw.whi;have hcw:cA u w=xY:=by have:=(GD u 0 w hw.whenAt).2;simpa using this
  rw[hw.conc,zAI u d hw.wAt (by omega) (w-5) 5 (by omega),hw.needs,show u.length-w=(u.length-(w+1))+1 by omega,QI];have e:J5 u d w=false:=by unfold J5;rw[hcw,decide_eq_false (by decide)];rfl
  rw[e,Bool.false_or,DT u d _ (w+1) (by rw[hw.wAt];omega) (by omega),show w+1-1=w by omega,hcw,hw.needs2]
 ·rw[decide_eq_false hk];rfl
theorem CB{x:zH}{u:zJ}(h:LT x u)(a b:Bs):yh a b u=zDO a b x:=by
 unfold yh zDO;rw[decide_eq_decide.2 h.k4,h.name];rcases h.kind with ⟨k,_⟩|⟨k,_⟩|⟨_,_,_,d⟩|⟨k,_⟩
 ·rw[decide_eq_false (fun e=>by rw[(h.k4).2 e]at k;exact absurd k (by decide))];rfl
 ·rw[decide_eq_false (fun e=>by rw[(h.k4).2 e]at k;exact absurd k (by decide))];rfl
 ·rw[d]
 ·rw[decide_eq_false (fun e=>by rw[(h.k4).2 e]at k;exact absurd k (by decide))];rfl
theorem aV(nm:Bs)(l:List Bs):∀i:Nat,vW nm l i<0 ↔ nm ∉ l:=by
 induction l with
 | nil=>intro i;simp[vW]
 | cons x r ih =>
   intro i;rw[vW];split
   ·rename_i h;subst h;simp
   ·rename_i h;rw[ih,List.mem_cons,not_or];exact⟨fun h1=>⟨fun e=>h e.symm,h1⟩,fun h1=>h1.2⟩
theorem FL(nm:Bs)(l:List Bs):l.Nodup->∀(i a:Nat),vW nm l i=((i+a:Nat):Int) ↔ a<l.length/\l.getD a []=nm:=by
 induction l with
 | nil=>intro _ i a;simp[vW];omega
 | cons x r ih =>
   intro hn i a;rw[List.nodup_cons]at hn;rw[vW];split
   ·rename_i h
    subst h
    cases a with
    | zero=>simp
    | succ a =>
      constructor
      ·intro h;omega
      ·rintro⟨h1,h2⟩
       exfalso
       apply hn.1
       rw[<-h2];have h3:a<r.length:=by simpa using h1
       have:(x::r).getD (a+1) []=r[a]:=by simp[List.getD,h3]
       rw[this];exact List.getElem_mem h3
   ·rename_i h
    cases a with
    | zero =>
      constructor
      ·intro h1
       have:=sZ nm r (i+1);exfalso
       have h2:0<=vW nm r (i+1):=by rw[h1];omega
       have h3:=ih hn.2 (i+1);obtain⟨b,hb⟩:=Int.eq_ofNat_of_zero_le h2
       have hge:∀(l:List Bs) (j:Nat),0<=vW nm l j->(j:Int)<=vW nm l j:=by
        intro l
        induction l with
        | nil=>intro j hj;simp[vW]at hj
        | cons y s ihs=>intro j hj;rw[vW]at hj ⊢;split
                        ·omega
                        ·rename_i hy;rw[if_neg hy]at hj;have:=ihs (j+1) hj;omega
       have:=hge r (i+1) h2;omega
      ·rintro⟨_,h2⟩;exact absurd (by simpa using h2) h
    | succ a =>
      rw[show i+(a+1)=i+1+a by omega,ih hn.2 (i+1) a];simp
theorem sY{names:List Bs}(hn:names.Nodup)(nm:Bs)(a:Nat):zM names nm=(a:Int) ↔ a<names.length/\names.getD a []=nm:=by
 have:=FL nm names hn 0 a
 rwa [Nat.zero_add]at this
theorem dU(ls:List zH):∀(acc:List Bs),acc.Nodup->(uO ls acc).Nodup/\(∀nm,nm∈uO ls acc ↔ (nm∈acc\/ls.any (Qr nm)=true))/\(uO ls acc).length<=acc.length+kO 3 ls:=by
 induction ls with
 | nil=>intro acc h;exact⟨h,fun nm=>by simp[uO],by simp[uO,kO]⟩
 | cons x r ih =>
   intro acc h;rw[uO,kO];by_cases hk:x.kind=3
   ·rw[if_pos hk]
    by_cases hf:zM acc x.conc<0
    ·rw[if_pos ⟨hk,hf⟩]
     have hnm:=(aV x.conc acc 0).1 hf;obtain⟨h1,h2,h3⟩:=ih (acc++[x.conc]) (by rw[List.nodup_append];exact⟨h,by simp,fun a ha b hb=>by rw[List.mem_singleton.1 hb];exact fun e=>hnm (e ▸ ha)⟩);refine⟨h1,fun nm=>?_,by rw[List.length_append,List.length_singleton]at h3;omega⟩;rw[h2,List.any_cons,Bool.or_eq_true,List.mem_append,List.mem_singleton];unfold Qr;rw[decide_eq_true hk,Bool.true_and,decide_eq_true_iff];constructor
     ·rintro((h|h)|h)
      ·exact .inl h
      ·exact .inr (.inl h.symm)
      ·exact .inr (.inr h)
     ·rintro(h|h|h)
      ·exact .inl (.inl h)
      ·exact .inl (.inr h.symm)
      ·exact .inr h
    ·rw[if_neg (fun h=>hf h.2)]
     have hnm:x.conc∈acc:=by
      rcases Classical.em (x.conc∈acc) with h1|h1
      ·exact h1
      ·exact absurd ((aV x.conc acc 0).2 h1) hf
     obtain⟨h1,h2,h3⟩:=ih acc h;refine⟨h1,fun nm=>?_,by omega⟩;rw[h2,List.any_cons,Bool.or_eq_true];unfold Qr;rw[decide_eq_true hk,Bool.true_and,decide_eq_true_iff];constructor
     ·rintro(h|h)
      ·exact .inl h
      ·exact .inr (.inr h)
     ·rintro(h|h|h)
      ·exact .inl h
      ·exact .inl (h ▸ hnm)
      ·exact .inr h
   ·rw[if_neg (fun h=>hk h.1),if_neg hk]
    obtain⟨h1,h2,h3⟩:=ih acc h;refine⟨h1,fun nm=>?_,by omega⟩;rw[h2,List.any_cons];unfold Qr;rw[decide_eq_false hk];simp
theorem BD(xs ys:List zH):∀acc,uO (xs++ys) acc=uO ys (uO xs acc):=by
 induction xs with
 | nil=>intro acc;rfl
 | cons x r ih=>intro acc;rw[List.cons_append,uO,ih,uO]
theorem lI(ls:List zH)(i:Nat)(h:i<ls.length):ls.take (i+1)=ls.take i++[lA ls i]:=by
 rw[List.take_add_one,List.getElem?_eq_getElem h];simp[lA,List.getD,h]
theorem XC{ls:List zH}{us:List zJ}(hA:yY ls us):tY us=zI ls:=by
 have hl:=hA.len
 have key:∀n i,i+n=us.length->cZ us n i (uO (ls.take i) [])=zI ls:=by
  intro n
  induction n with
  | zero=>intro i h;rw[cZ,List.take_of_length_le (by omega)];rfl
  | succ n ih =>
    intro i h;rw[cZ,<-ih (i+1) (by omega),lI ls i (by omega),BD];congr 1
    rw[uO,uO];have hx:=hA.get i (by omega);obtain⟨_,h2,_⟩:=dU (ls.take i) [] List.nodup_nil;by_cases hk:cA (uA us i) 0=zW
    ·obtain⟨w,hw⟩:=hx.rule hk
     rw[hw.conc];have hk3:=hx.k3.2 hk
     have e:yF us zW 3 (lA ls i).conc=(i:Int) ↔ zM (uO (ls.take i) []) (lA ls i).conc<0:=by
      have f1:=sW (YA zW 3 (lA ls i).conc) us 0 i;have f2:=sW (YA zW 3 (lA ls i).conc) us 0 (i+1)
      have hself:(us.take (i+1)).any (YA zW 3 (lA ls i).conc)=true:=by
       refine List.any_eq_true.2 ⟨uA us i,?_,?_⟩
       ·have:(us.take (i+1))[i]? = some (uA us i):=by rw[List.getElem?_take_of_lt (by omega),List.getElem?_eq_getElem (by omega)];simp[uA,List.getD,show i<us.length by omega]
        exact List.mem_of_getElem? this
       ·unfold YA;rw[hw.conc,decide_eq_true hk];simp
      have f3:=f2.2 hself;have e1:(us.take i).any (YA zW 3 (lA ls i).conc)=(ls.take i).any (Qr (lA ls i).conc):=(mE (hA.take i) (fun x u hx=>Vi hx (lA ls i).conc)).symm;rw[e1]at f1;unfold zM;rw[aV,h2];unfold yF;constructor
      ·intro h9 h10
       have h11:(ls.take i).any (Qr (lA ls i).conc)=true:=by rcases h10 with h10|h10;exact absurd h10 (by simp);exact h10
       have:=f1.2 h11;omega
      ·intro h9
       have h10:¬(ls.take i).any (Qr (lA ls i).conc)=true:=fun h=>h9 (.inr h);have h11:¬(0<=vZ (YA zW 3 (lA ls i).conc) us 0/\vZ (YA zW 3 (lA ls i).conc) us 0<((0:Nat):Int)+(i:Int)):=fun h=>h10 (f1.1 h);omega
     by_cases hf:zM (uO (ls.take i) []) (lA ls i).conc<0
     ·rw[if_pos ⟨hk,e.2 hf⟩,if_pos ⟨hk3,hf⟩]
     ·rw[if_neg (fun h=>hf (e.1 h.2)),if_neg (fun h=>hf h.2)]
    ·rw[if_neg (fun h=>hk h.1),if_neg (fun h=>hk (hx.k3.1 h.1))]
 have:=key us.length 0 (by omega);rw[List.take_zero]at this;exact this
theorem QS(xs ys:List zH):∀acc,kZ (xs++ys) acc=kZ ys (kZ xs acc):=by
 induction xs with
 | nil=>intro acc;rfl
 | cons x r ih=>intro acc;rw[List.cons_append,kZ,ih,kZ]
theorem Z4{ls:List zH}{us:List zJ}(hA:yY ls us):pZ us=xA ls:=by
 have hl:=hA.len
 have key:∀n i,i+n=us.length->sO us n i (kZ (ls.take i) [])=xA ls:=by
  intro n
  induction n with
  | zero=>intro i h;rw[sO,List.take_of_length_le (by omega)];rfl
  | succ n ih =>
    intro i h;rw[sO,<-ih (i+1) (by omega),lI ls i (by omega),QS];congr 1
    rw[kZ,kZ];have hx:=hA.get i (by omega);by_cases hk:cA (uA us i) 0=zW
    ·rw[if_pos hk,if_pos (hx.k3.2 hk),hx.name]
    ·rw[if_neg hk,if_neg (fun h=>hk (hx.k3.1 h))]
 have:=key us.length 0 (by omega);rw[List.take_zero]at this;exact this
theorem XU{G:List Bool}(hl:G.length=64)(f t:Int){a b:Nat}(ha:a<8)(hb:b<8):gA (oX G f t) a b=(gA G a b || (decide (f=(a:Int))&&decide (t=(b:Int)))):=by
 unfold oX;by_cases h:(0<=f/\f<8)/\(0<=t/\t<8)
 ·rw[if_pos h,BF hl (by omega)]
  congr 1
  have e:decide (a*8+b=f.toNat*8+t.toNat)=(decide (f=(a:Int))&&decide (t=(b:Int))):=by
   rw[Bool.eq_iff_iff,Bool.and_eq_true,decide_eq_true_iff,decide_eq_true_iff,decide_eq_true_iff];omega
  exact e
 ·rw[if_neg h]
  have:(decide (f=(a:Int))&&decide (t=(b:Int)))=false:=by
   rw[Bool.and_eq_false_iff,decide_eq_false_iff_not,decide_eq_false_iff_not];omega
  rw[this,Bool.or_false]
theorem QD(names:List Bs)(f:Int)(S:List xC):∀G,(cE names f S G).length=G.length:=by
 induction S with
 | nil=>intro G;rfl
 | cons x r ih=>intro G;rw[cE,ih,cQ]
theorem DR(names:List Bs)(f:Int)(N:List yB):∀G,(mQ names f N G).length=G.length:=by
 induction N with
 | nil=>intro G;rfl
 | cons x r ih=>intro G;rw[mQ,ih];split
                ·rw[cQ]
                ·rfl
theorem DH(names:List Bs)(f:Int)(S:List xC){a b:Nat}(ha:a<8)(hb:b<8):∀G,G.length=64->gA (cE names f S G) a b=(gA G a b || (decide (f=(a:Int))&&S.any (fun x=>decide (zM names x.name=(b:Int))))):=by
 induction S with
 | nil=>intro G _;simp[cE]
 | cons x r ih =>
   intro G hl;rw[cE,ih _ (by rw[cQ,hl]),XU hl f _ ha hb,List.any_cons];cases gA G a b <;> cases decide (f=(a:Int)) <;> cases decide (zM names x.name=(b:Int)) <;> simp
theorem DS(names:List Bs)(f:Int)(N:List yB){a b:Nat}(ha:a<8)(hb:b<8):∀G,G.length=64->gA (mQ names f N G) a b=(gA G a b || (decide (f=(a:Int))&&N.any (fun x=>decide (x.kind=5)&&decide (zM names x.name=(b:Int))))):=by
 induction N with
 | nil=>intro G _;simp[mQ]
 | cons x r ih =>
   intro G hl;rw[mQ];by_cases hk:x.kind=5
   ·rw[if_pos hk,ih _ (by rw[cQ,hl]),XU hl f _ ha hb,List.any_cons,decide_eq_true hk]
    cases gA G a b <;> cases decide (f=(a:Int)) <;> cases decide (zM names x.name=(b:Int)) <;> simp
   ·rw[if_neg hk,ih _ hl,List.any_cons,decide_eq_false hk];simp
def qx(names:List Bs)(a b:Nat)(x:zH):Bool:=decide (x.kind=3)&&(decide (zM names x.conc=(a:Int))&&(x.sum.any (fun y=>decide (zM names y.name=(b:Int))) || x.nd.any (fun y=>decide (y.kind=5)&&decide (zM names y.name=(b:Int)))))
theorem Xt(names:List Bs)(ls:List zH){a b:Nat}(ha:a<8)(hb:b<8):∀G,G.length=64->gA (kE names ls G) a b=(gA G a b || ls.any (qx names a b)):=by
 induction ls with
 | nil=>intro G _;simp[kE]
 | cons x r ih =>
   intro G hl;rw[kE,List.any_cons];by_cases hk:x.kind=3
   ·have ex:qx names a b x=(decide (zM names x.conc=(a:Int))&&(x.sum.any (fun y=>decide (zM names y.name=(b:Int))) || x.nd.any (fun y=>decide (y.kind=5)&&decide (zM names y.name=(b:Int))))):=by
     unfold qx;rw[decide_eq_true hk,Bool.true_and]
    rw[if_pos hk,ih _ (by rw[DR,QD,hl]),DS _ _ _ ha hb _ (by rw[QD,hl]),DH _ _ _ ha hb _ hl,ex];generalize r.any (qx names a b)=R;generalize x.sum.any (fun y=>decide (zM names y.name=(b:Int)))=s;generalize x.nd.any (fun y=>decide (y.kind=5)&&decide (zM names y.name=(b:Int)))=n;cases gA G a b <;> cases decide (zM names x.conc=(a:Int)) <;> cases s <;> cases n <;> simp
   ·have ex:qx names a b x=false:=by unfold qx;rw[decide_eq_false hk];rfl
    rw[if_neg hk,ih _ hl,ex,Bool.false_or]
def zCW(labs:List Bs)(a b:Nat)(x:zH):Bool:=decide (x.kind=4)&&(decide (zM labs x.name=(a:Int))&&decide (zM labs x.lower=(b:Int)))
theorem Xh(labs:List Bs)(ls:List zH){a b:Nat}(ha:a<8)(hb:b<8):∀G,G.length=64->gA (qG labs ls G) a b=(gA G a b || ls.any (zCW labs a b)):=by
 induction ls with
 | nil=>intro G _;simp[qG]
 | cons x r ih =>
   intro G hl;rw[qG,List.any_cons];by_cases hk:x.kind=4
   ·rw[if_pos hk,ih _ (by rw[cQ,hl]),XU hl _ _ ha hb]
    unfold zCW;rw[decide_eq_true hk];cases gA G a b <;> cases decide (zM labs x.name=(a:Int)) <;> cases decide (zM labs x.lower=(b:Int)) <;> simp
   ·rw[if_neg hk,ih _ hl]
    have:zCW labs a b x=false:=by unfold zCW;rw[decide_eq_false hk];rfl
    rw[this,Bool.false_or]
theorem ZA{a b:Nat}:gA gZ a b=false:=by
 unfold gA gZ;simp only[List.getD_eq_getElem?_getD,List.getElem?_replicate];split <;> rfl
theorem yd(S:List xC){d:Bs}(hd:d≠[]):(S.flatMap sE).any (fun y=>decide (y.2=d))=S.any (fun x=>decide (x.name=d)):=by
 induction S with
 | nil=>rfl
 | cons x r ih =>
   rw[List.flatMap_cons,List.any_append,ih,List.any_cons];congr 1
   unfold sE;by_cases h:x.name=[]
   ·rw[if_pos h,h,decide_eq_false (fun e=>hd e.symm)];rfl
   ·rw[if_neg h];simp
theorem yp(N:List yB)(d:Bs):(jV N).any (fun y=>decide (y.1=1)&&decide (y.2=d))=N.any (fun x=>decide (x.kind=5)&&decide (x.name=d)):=by
 induction N with
 | nil=>rfl
 | cons x r ih =>
   unfold jV at ih ⊢;rw[List.flatMap_cons,List.any_append,ih,List.any_cons];congr 1
   unfold KI;by_cases h5:x.kind=5
   ·rw[if_pos h5,decide_eq_true h5];simp
   ·rw[if_neg h5,decide_eq_false h5]
    split
    ·simp
    ·split
     ·split <;> simp
     ·rfl
theorem zCV{names:List Bs}(hn:names.Nodup){a b:Nat}(zG7:b<names.length->names.getD b []≠[])(x:zH):qx names a b x=(decide (a<names.length)&&(decide (b<names.length)&&zF3 (names.getD a []) (names.getD b []) x)):=by
 unfold qx zF3
 have e:∀(nm:Bs) (k:Nat),decide (zM names nm=(k:Int))=(decide (k<names.length)&&decide (nm=names.getD k [])):=fun nm k=>by
  rw[Bool.eq_iff_iff,Bool.and_eq_true,decide_eq_true_iff,decide_eq_true_iff,decide_eq_true_iff,sY hn];exact⟨fun h=>⟨h.1,h.2.symm⟩,fun h=>⟨h.1,h.2.symm⟩⟩
 simp only[e];by_cases hb:b<names.length
 ·rw[decide_eq_true hb,yd _ (zG7 hb),yp]
  simp only[Bool.true_and];cases decide (x.kind=3) <;> cases decide (a<names.length) <;> simp
 ·rw[decide_eq_false hb]
  simp
theorem qw{labs:List Bs}(hn:labs.Nodup){a b:Nat}(x:zH):zCW labs a b x=(decide (a<labs.length)&&(decide (b<labs.length)&&zDO (labs.getD a []) (labs.getD b []) x)):=by
 unfold zCW zDO
 have e:∀(nm:Bs) (k:Nat),decide (zM labs nm=(k:Int))=(decide (k<labs.length)&&decide (nm=labs.getD k [])):=fun nm k=>by
  rw[Bool.eq_iff_iff,Bool.and_eq_true,decide_eq_true_iff,decide_eq_true_iff,decide_eq_true_iff,sY hn];exact⟨fun h=>⟨h.1,h.2.symm⟩,fun h=>⟨h.1,h.2.symm⟩⟩
 rw[e,e];cases decide (x.kind=4) <;> cases decide (a<labs.length) <;> cases decide (b<labs.length) <;> simp
theorem gU(p:Bool)(q:zH->Bool)(ls:List zH):ls.any (fun x=>p&&q x)=(p&&ls.any q):=by
 induction ls with
 | nil=>simp
 | cons x r ih=>rw[List.any_cons,ih,List.any_cons];cases p <;> simp
theorem UJ{ls:List zH}{us:List zJ}(hA:yY ls us)(h8:kO 3 ls<=8):dZ us false=kY (kE (zI ls) ls gZ):=by
 obtain⟨hn,hmem,zG4⟩:=dU ls [] List.nodup_nil;have hl8:(zI ls).length<=8:=by unfold zI;simp at zG4;omega
 have zG7:∀b,b<(zI ls).length->(zI ls).getD b []≠[]:=by
  intro b hb e;have h1:(zI ls).getD b []∈zI ls:=by simp[List.getD,hb]
  rw[e]at h1;have h2:=(hmem []).1 h1;rcases h2 with h2|h2
  ·simp at h2
  ·obtain⟨x,hx,hc⟩:=List.any_eq_true.1 h2
   unfold Qr at hc;rw[Bool.and_eq_true,decide_eq_true_iff,decide_eq_true_iff]at hc
   have hex:∀ {ls:List zH} {us:List zJ},yY ls us->x∈ls->∃u,LT x u:=by
    intro ls
    induction ls with
    | nil=>intro us _ h;simp at h
    | cons y r ih =>
      intro us hA h
      cases us with
      | nil=>exact absurd hA id
      | cons u us =>
        rcases List.mem_cons.1 h with rfl|h
        ·exact⟨u,hA.1⟩
        ·exact ih hA.2 h
   obtain⟨u,hu⟩:=hex hA hx;obtain⟨w,hw⟩:=hu.rule (hu.k3.1 hc.1);exact hw.ne hc.2
 unfold dZ Y6;simp only[XC hA];refine QB (by rw[nT];exact xP) hl8 (fun a b ha hb=>?_);rw[Xt _ _ ha hb _ xP,ZA,Bool.false_or]
 have e1:ls.any (qx (zI ls) a b)=(decide (a<(zI ls).length)&&(decide (b<(zI ls).length)&&ls.any (zF3 ((zI ls).getD a []) ((zI ls).getD b [])))):=by
  rw[<-gU,<-gU];congr 1
  funext x
  exact zCV hn (zG7 b) x
 rw[e1];unfold Kl kW nO bK;simp only;rw[<-mE hA (fun x u hx=>(CE hx _ _).symm),Bool.and_eq_true,Bool.and_eq_true,decide_eq_true_iff,decide_eq_true_iff]
theorem X2(ls:List zH):∀acc,(kZ ls acc).length=acc.length+kO 3 ls/\(∀nm,nm∈kZ ls acc ↔ (nm∈acc\/uJ ls 3 nm=true)):=by
 induction ls with
 | nil=>intro acc;exact⟨by simp[kZ,kO],fun nm=>by simp[kZ,uJ]⟩
 | cons x r ih =>
   intro acc;rw[kZ,kO];by_cases hk:x.kind=3
   ·rw[if_pos hk,if_pos hk]
    obtain⟨h1,h2⟩:=ih (acc++[x.name]);refine⟨by rw[h1,List.length_append,List.length_singleton];omega,fun nm=>?_⟩;rw[h2,List.mem_append,List.mem_singleton];unfold uJ;rw[List.any_cons,Bool.or_eq_true];unfold iU;rw[decide_eq_true hk,Bool.true_and,decide_eq_true_iff];constructor
    ·rintro((h|h)|h)
     ·exact .inl h
     ·exact .inr (.inl h.symm)
     ·exact .inr (.inr h)
    ·rintro(h|h|h)
     ·exact .inl (.inl h)
     ·exact .inl (.inr h.symm)
     ·exact .inr h
   ·rw[if_neg hk,if_neg hk]
    obtain⟨h1,h2⟩:=ih acc;refine⟨by omega,fun nm=>?_⟩;rw[h2];unfold uJ;rw[List.any_cons];have:iU 3 nm x=false:=by unfold iU;rw[decide_eq_false hk];rfl
    rw[this,Bool.false_or]
theorem X1(ls:List zH)(h:∀i,i<ls.length->(lA ls i).kind=3->uJ (ls.take i) 3 (lA ls i).name=false):(xA ls).Nodup:=by
 have key:∀n,n<=ls.length->(kZ (ls.take n) []).Nodup:=by
  intro n
  induction n with
  | zero=>intro _;simp[kZ]
  | succ n ih =>
    intro hn;rw[lI ls n (by omega),QS,kZ,kZ];split
    ·rename_i hk
     rw[List.nodup_append];refine⟨ih (by omega),by simp,fun a ha b hb=>?_⟩;rw[List.mem_singleton.1 hb];intro e;subst e;have:=((X2 (ls.take n) []).2 (lA ls n).name).1 ha;rcases this with h1|h1
     ·simp at h1
     ·rw[h n (by omega) hk]at h1;exact absurd h1 (by decide)
    ·exact ih (by omega)
 have:=key ls.length (Nat.le_refl _);rw[List.take_length]at this;exact this
theorem DC{ls:List zH}{us:List zJ}(hA:yY ls us)(h8:kO 3 ls<=8)(hn:(xA ls).Nodup):dZ us true=kY (qG (xA ls) ls gZ):=by
 have zG4:=(X2 ls []).1;have hl8:(xA ls).length<=8:=by unfold xA;simp at zG4;omega
 unfold dZ Y6;simp only[Z4 hA];refine QB (by rw[lK];exact xP) hl8 (fun a b ha hb=>?_);rw[Xh _ _ ha hb _ xP,ZA,Bool.false_or]
 have e1:ls.any (zCW (xA ls) a b)=(decide (a<(xA ls).length)&&(decide (b<(xA ls).length)&&ls.any (zDO ((xA ls).getD a []) ((xA ls).getD b [])))):=by
  rw[<-gU,<-gU];congr 1
  funext x
  exact qw hn x
 rw[e1];unfold Kl kW nO sJ;simp only;rw[<-mE hA (fun x u hx=>(CB hx _ _).symm),Bool.and_eq_true,Bool.and_eq_true,decide_eq_true_iff,decide_eq_true_iff]
end Go.Proofs.YtnbpdffdnphbeaaGreatDoor
