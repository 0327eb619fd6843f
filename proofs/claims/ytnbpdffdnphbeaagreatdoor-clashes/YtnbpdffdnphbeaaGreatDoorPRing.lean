import Derived.Test.YtnbpdffdnphbeaaGreatDoorCkErr2
namespace Go.Proofs.YtnbpdffdnphbeaaGreatDoor
variable{us:List zG}{a b:Nat}(names:List Bs)(u:zG)(f:Int)(nm:Bs)(ls:List zF)(N:List zX)(d:Bs)(S:List yZ)
def dC(us:List zG):Nat->Nat->List Bs->List Bs
 | 0,_,acc=>acc
 | n+1,i,acc=>dC us n (i+1) (if cA (uA us i) 0=zR/\zW us zR 3 (tA (uA us i) 3)=(i:Int) then acc++[tA (uA us i) 3] else acc)
def qM(us:List zG):List Bs:=dC us us.length 0 []
def sG(us:List zG):Nat->Nat->List Bs->List Bs
 | 0,_,acc=>acc
 | n+1,i,acc=>sG us n (i+1) (if cA (uA us i) 0=zR then acc++[tA (uA us i) 1] else acc)
def pT(us:List zG):List Bs:=sG us us.length 0 []
def Ko(u:zG)(d:Bs)(k:Nat):Bool:=decide (cA u k=yU)&&(decide (tA u k=d)&&(decide (k<iZ u) || decide (cA u (k-1)=[104,97,115])))
def Jr(u:zG)(d:Bs):Nat->Nat->Bool
 | 0,_=>false
 | n+1,k=>Ko u d k || Jr u d n (k+1)
def qt(c d:Bs)(u:zG):Bool:=decide (cA u 0=zR)&&(decide (tA u 3=c)&&Jr u d (u.length-5) 5)
def cY(us:List zG)(c d:Bs):Bool:=us.any (qt c d)
def qi(x y:Bs)(u:zG):Bool:=decide (cA u 0=tZ)&&(decide (tA u 1=x)&&decide (tA u 2=y))
def rX(us:List zG)(x y:Bs):Bool:=us.any (qi x y)
def rL(us:List zG)(rules:Bool)(x y:Bs):Bool:=match rules with|true=>rX us x y|false=>cY us x y
def jE(us:List zG)(rules:Bool)(names:List Bs)(i k:Nat):Bool:=rL us rules (names.getD i []) (names.getD k [])
def YT(us:List zG)(rules:Bool):List Bs:=match rules with|true=>pT us|false=>qM us
def fB(us:List zG)(rules:Bool):Bool:=wK (jE us rules (YT us rules)) (YT us rules).length
def zHS(c d:Bs)(x:zF):Bool:=decide (x.kind=3)&&(decide (x.conc=c)&&((x.sum.flatMap rS).any (fun y=>decide (y.2=d)) || (tE x.nd).any (fun y=>decide (y.1=1)&&decide (y.2=d))))
def zH8(x y:Bs)(l:zF):Bool:=decide (l.kind=4)&&(decide (l.name=x)&&decide (l.lower=y))
theorem Gu(n:Nat):∀k,iZ u<k->k+n=u.length->Jr u d n k=(qX (cA u (k-1)) (u.drop k) []).any (fun y=>decide (y.1=1)&&decide (y.2=d)):=by
 induction n with
 | zero=>intro k _ h;rw[tu (by omega)];rfl
 | succ n ih =>
   intro k hk h;have zI6:k<u.length:=by omega
   rw[zJ u k zI6,qX,Jr,XB,ih (k+1) (by omega) (by omega),show k+1-1=k by omega,df];show (Ko u d k || _)=((if cA u k=yU then [(mW (cA u (k-1)) (D9 u k),tA u k)] else []).any _ || (qX (cA u k) (u.drop (k+1)) []).any _);congr 1
   unfold Ko;rw[th (show ¬k<iZ u by omega),pm];by_cases hc:cA u k=yU
   ·rw[tl hc,tm hc]
    have e:decide (mW (cA u (k-1)) (D9 u k)=1)=decide (cA u (k-1)=[104,97,115]):=by
     unfold mW;by_cases hh:cA u (k-1)=[104,97,115]
     ·rw[tl hh,tm hh];rfl
     ·rw[tg hh,th hh];split <;> rfl
    simp only[mt,List.any_nil,Bool.or_false,md,e];exact Bool.and_comm _ _
   ·rw[tg hc,th hc];rfl
theorem zCR{w:Nat}(hw:iZ u=w)(hwl:w<u.length)(n:Nat):∀k,k+n=w->Jr u d (u.length-k) k=((cK ((u.take w).drop k)).any (fun y=>decide (y.2=d)) || Jr u d (u.length-w) w):=by
 induction n with
 | zero=>intro k h;obtain rfl:k=w:=by omega
         rw[tu (by rw[p9];omega)];rfl
 | succ n ih =>
   intro k h;have zI6:k<(u.take w).length:=by rw[p9];omega
   have e0:(u.take w).getD k (0,[])=u.getD k (0,[]):=by rw[List.getD,List.getD,List.getElem?_take_of_lt (by omega)]
   rw[show u.length-k=(u.length-(k+1))+1 by omega,Jr,ih (k+1) (by omega),zJ (u.take w) k zI6,e0,cK,df,<-Bool.or_assoc];congr 2
   show Ko u d k=(if cA u k=yU then [(0,tA u k)] else []).any _;unfold Ko;rw[tm (show k<iZ u by omega),dq,Bool.and_true];by_cases hc:cA u k=yU
   ·rw[tl hc,tm hc];simp
   ·rw[tg hc,th hc];rfl
theorem ve:∀(k j:Nat),mS u k=some j->k<=j/\cA u (j-k)=xO:=by
 induction u with
 | nil=>intro k j h;simp[mS]at h
 | cons t r ih =>
   intro k j h;rw[mS]at h;split at h
   ·rename_i ht
    obtain rfl:=co h;exact⟨t9 _,by rw[bj];exact ht⟩
   ·obtain⟨h1,h2⟩:=ih (k+1) j h
    refine⟨by omega,?_⟩;rw[show j-k=(j-(k+1))+1 by omega];exact h2
theorem zCQ{x:zF}{u:zG}(h:LT x u)(c d:Bs):qt c d u=zHS c d x:=by
 unfold qt zHS;rw[bp.2 h.k3];by_cases hk:cA u 0=zR
 ·obtain⟨w,hw⟩:=h.rule hk
  have h1:=hw.wlo;have h2:=hw.whi;have hcw:cA u w=xO:=by have:=(ve u 0 w hw.whenAt).2;simpa using this
  rw[hw.conc,zCR u d hw.wAt (by omega) (w-5) 5 (by omega),hw.needs,show u.length-w=(u.length-(w+1))+1 by omega,Jr];have e:Ko u d w=false:=by unfold Ko;rw[hcw,th (by decide)];rfl
  rw[e,pm,Gu u d _ (w+1) (by rw[hw.wAt];omega) (by omega),show w+1-1=w by omega,hcw,hw.needs2]
 ·rw[th hk];rfl
theorem D7{x:zF}{u:zG}(h:LT x u)(a b:Bs):qi a b u=zH8 a b x:=by
 unfold qi zH8;rw[bp.2 h.k4,h.name];rcases h.kind with ⟨k,_⟩|⟨k,_⟩|⟨_,_,_,d⟩|⟨k,_⟩
 ·rw[th (fun e=>by rw[(h.k4).2 e]at k;exact absurd k (by decide))];rfl
 ·rw[th (fun e=>by rw[(h.k4).2 e]at k;exact absurd k (by decide))];rfl
 ·rw[d]
 ·rw[th (fun e=>by rw[(h.k4).2 e]at k;exact absurd k (by decide))];rfl
theorem aM(l:List Bs):∀i:Nat,uB nm l i<0 ↔ nm ∉ l:=by
 induction l with
 | nil=>intro i;simp[uB]
 | cons x r ih =>
   intro i;rw[uB];split
   ·rename_i h;subst h;simp
   ·rename_i h;rw[ih,pi,not_or];exact⟨fun h1=>⟨fun e=>h e.symm,h1⟩,fun h1=>h1.2⟩
theorem J3(l:List Bs):l.Nodup->∀(i a:Nat),uB nm l i=((i+a:Nat):Int) ↔ a<l.length/\l.getD a []=nm:=by
 induction l with
 | nil=>intro _ i a;simp[uB];omega
 | cons x r ih =>
   intro hn i a;rw[List.nodup_cons]at hn;rw[uB];split
   ·rename_i h
    subst h
    cases a with
    | zero=>simp
    | succ a =>
      constructor
      ·intro h;omega
      ·rintro⟨h1,h2⟩
       exfalso
       apply hn.1
       rw[<-h2];have h3:a<r.length:=by simpa using h1
       have:(x::r).getD (a+1) []=r[a]:=by simp[List.getD,h3]
       rw[this];exact List.getElem_mem h3
   ·rename_i h
    cases a with
    | zero =>
      constructor
      ·intro h1
       have:=Y0 nm r (i+1);exfalso
       have h2:0<=uB nm r (i+1):=by rw[h1];omega
       have h3:=ih hn.2 (i+1);obtain⟨b,hb⟩:=bq h2
       have hge:∀(l:List Bs) (j:Nat),0<=uB nm l j->(j:Int)<=uB nm l j:=by
        intro l
        induction l with
        | nil=>intro j hj;simp[uB]at hj
        | cons y s ihs=>intro j hj;rw[uB]at hj ⊢;split
                        ·omega
                        ·rename_i hy;rw[tg hy]at hj;have:=ihs (j+1) hj;omega
       have:=hge r (i+1) h2;omega
      ·rintro⟨_,h2⟩;exact absurd (by simpa using h2) h
    | succ a =>
      rw[show i+(a+1)=i+1+a by omega,ih hn.2 (i+1) a];simp
theorem Uu{names:List Bs}(hn:names.Nodup)(nm:Bs)(a:Nat):zH names nm=(a:Int) ↔ a<names.length/\names.getD a []=nm:=by
 have:=J3 nm names hn 0 a
 rwa [lu]at this
theorem aK:∀(acc:List Bs),acc.Nodup->(uW ls acc).Nodup/\(∀nm,nm∈uW ls acc ↔ (nm∈acc\/ls.any (Vd nm)=true))/\(uW ls acc).length<=acc.length+qD 3 ls:=by
 induction ls with
 | nil=>intro acc h;exact⟨h,fun nm=>by simp[uW],by simp[uW,qD]⟩
 | cons x r ih =>
   intro acc h;rw[uW,qD];by_cases hk:x.kind=3
   ·rw[tl hk]
    by_cases hf:zH acc x.conc<0
    ·rw[tl ⟨hk,hf⟩]
     have hnm:=(aM x.conc acc 0).1 hf;obtain⟨h1,h2,h3⟩:=ih (acc++[x.conc]) (by rw[List.nodup_append];exact⟨h,by simp,fun a ha b hb=>by rw[pu.1 hb];exact fun e=>hnm (e ▸ ha)⟩);refine⟨h1,fun nm=>?_,by rw[tq,pd]at h3;omega⟩;rw[h2,mt,mz,pt,pu];unfold Vd;rw[tm hk,md,pr];constructor
     ·rintro((h|h)|h)
      ·exact .inl h
      ·exact .inr (.inl h.symm)
      ·exact .inr (.inr h)
     ·rintro(h|h|h)
      ·exact .inl (.inl h)
      ·exact .inl (.inr h.symm)
      ·exact .inr h
    ·rw[tg (fun h=>hf h.2)]
     have hnm:x.conc∈acc:=by
      rcases Classical.em (x.conc∈acc) with h1|h1
      ·exact h1
      ·exact absurd ((aM x.conc acc 0).2 h1) hf
     obtain⟨h1,h2,h3⟩:=ih acc h;refine⟨h1,fun nm=>?_,by omega⟩;rw[h2,mt,mz];unfold Vd;rw[tm hk,md,pr];constructor
     ·rintro(h|h)
      ·exact .inl h
      ·exact .inr (.inr h)
     ·rintro(h|h|h)
      ·exact .inl h
      ·exact .inl (h ▸ hnm)
      ·exact .inr h
   ·rw[tg (fun h=>hk h.1),tg hk]
    obtain⟨h1,h2,h3⟩:=ih acc h;refine⟨h1,fun nm=>?_,by omega⟩;rw[h2,mt];unfold Vd;rw[th hk];simp
theorem CD(xs ys:List zF):∀acc,uW (xs++ys) acc=uW ys (uW xs acc):=by
 induction xs with
 | nil=>intro acc;rfl
 | cons x r ih=>intro acc;rw[bw,uW,ih,uW]
theorem pJ(i:Nat)(h:i<ls.length):ls.take (i+1)=ls.take i++[lA ls i]:=by
 rw[dj,pe h];simp[lA,List.getD,h]
theorem Qa{ls:List zF}(hA:yP ls us):qM us=zT ls:=by
 have hl:=hA.len
 have key:∀n i,i+n=us.length->dC us n i (uW (ls.take i) [])=zT ls:=by
  intro n
  induction n with
  | zero=>intro i h;rw[dC,cf (by omega)];rfl
  | succ n ih =>
    intro i h;rw[dC,<-ih (i+1) (by omega),pJ ls i (by omega),CD];congr 1
    rw[uW,uW];have hx:=hA.get i (by omega);obtain⟨_,h2,_⟩:=aK (ls.take i) [] List.nodup_nil;by_cases hk:cA (uA us i) 0=zR
    ·obtain⟨w,hw⟩:=hx.rule hk
     rw[hw.conc];have hk3:=hx.k3.2 hk
     have e:zW us zR 3 (lA ls i).conc=(i:Int) ↔ zH (uW (ls.take i) []) (lA ls i).conc<0:=by
      have f1:=sM (aG zR 3 (lA ls i).conc) us 0 i;have f2:=sM (aG zR 3 (lA ls i).conc) us 0 (i+1)
      have hself:(us.take (i+1)).any (aG zR 3 (lA ls i).conc)=true:=by
       refine mj.2 ⟨uA us i,?_,?_⟩
       ·have:(us.take (i+1))[i]? = some (uA us i):=by rw[List.getElem?_take_of_lt (by omega),pe (by omega)];simp[uA,List.getD,show i<us.length by omega]
        exact List.mem_of_getElem? this
       ·unfold aG;rw[hw.conc,tm hk];simp
      have f3:=f2.2 hself;have e1:(us.take i).any (aG zR 3 (lA ls i).conc)=(ls.take i).any (Vd (lA ls i).conc):=(bE (hA.take i) (fun x u hx=>Uc hx (lA ls i).conc)).symm;rw[e1]at f1;unfold zH;rw[aM,h2];unfold zW;constructor
      ·intro h9 h10
       have h11:(ls.take i).any (Vd (lA ls i).conc)=true:=by rcases h10 with h10|h10;exact absurd h10 (by simp);exact h10
       have:=f1.2 h11;omega
      ·intro h9
       have h10:¬(ls.take i).any (Vd (lA ls i).conc)=true:=fun h=>h9 (.inr h);have h11:¬(0<=vT (aG zR 3 (lA ls i).conc) us 0/\vT (aG zR 3 (lA ls i).conc) us 0<((0:Nat):Int)+(i:Int)):=fun h=>h10 (f1.1 h);omega
     by_cases hf:zH (uW (ls.take i) []) (lA ls i).conc<0
     ·rw[tl ⟨hk,e.2 hf⟩,tl ⟨hk3,hf⟩]
     ·rw[tg (fun h=>hf (e.1 h.2)),tg (fun h=>hf h.2)]
    ·rw[tg (fun h=>hk h.1),tg (fun h=>hk (hx.k3.1 h.1))]
 have:=key us.length 0 (by omega);rw[List.take_zero]at this;exact this
theorem Jy(xs ys:List zF):∀acc,jG (xs++ys) acc=jG ys (jG xs acc):=by
 induction xs with
 | nil=>intro acc;rfl
 | cons x r ih=>intro acc;rw[bw,jG,ih,jG]
theorem ZL{ls:List zF}(hA:yP ls us):pT us=xH ls:=by
 have hl:=hA.len
 have key:∀n i,i+n=us.length->sG us n i (jG (ls.take i) [])=xH ls:=by
  intro n
  induction n with
  | zero=>intro i h;rw[sG,cf (by omega)];rfl
  | succ n ih =>
    intro i h;rw[sG,<-ih (i+1) (by omega),pJ ls i (by omega),Jy];congr 1
    rw[jG,jG];have hx:=hA.get i (by omega);by_cases hk:cA (uA us i) 0=zR
    ·rw[tl hk,tl (hx.k3.2 hk),hx.name]
    ·rw[tg hk,tg (fun h=>hk (hx.k3.1 h))]
 have:=key us.length 0 (by omega);rw[List.take_zero]at this;exact this
theorem Qw{G:List Bool}(hl:G.length=64)(f t:Int)(ha:a<8)(hb:b<8):gA (oR G f t) a b=(gA G a b || (decide (f=(a:Int))&&decide (t=(b:Int)))):=by
 unfold oR;by_cases h:(0<=f/\f<8)/\(0<=t/\t<8)
 ·rw[tl h,CK hl (by omega)]
  congr 1
  have e:decide (a*8+b=f.toNat*8+t.toNat)=(decide (f=(a:Int))&&decide (t=(b:Int))):=by
   rw[ct,tz,pr,pr,pr];omega
  exact e
 ·rw[tg h]
  have:(decide (f=(a:Int))&&decide (t=(b:Int)))=false:=by
   rw[fj,bk,bk];omega
  rw[this,Bool.or_false]
theorem Jo:∀G,(cJ names f S G).length=G.length:=by
 induction S with
 | nil=>intro G;rfl
 | cons x r ih=>intro G;rw[cJ,ih,cR]
theorem Gs:∀G,(mU names f N G).length=G.length:=by
 induction N with
 | nil=>intro G;rfl
 | cons x r ih=>intro G;rw[mU,ih];split
                ·rw[cR]
                ·rfl
theorem Gb(ha:a<8)(hb:b<8):∀G,G.length=64->gA (cJ names f S G) a b=(gA G a b || (decide (f=(a:Int))&&S.any (fun x=>decide (zH names x.name=(b:Int))))):=by
 induction S with
 | nil=>intro G _;simp[cJ]
 | cons x r ih =>
   intro G hl;rw[cJ,ih _ (by rw[cR,hl]),Qw hl f _ ha hb,mt];cases gA G a b <;> cases decide (f=(a:Int)) <;> cases decide (zH names x.name=(b:Int)) <;> simp
theorem Gt(ha:a<8)(hb:b<8):∀G,G.length=64->gA (mU names f N G) a b=(gA G a b || (decide (f=(a:Int))&&N.any (fun x=>decide (x.kind=5)&&decide (zH names x.name=(b:Int))))):=by
 induction N with
 | nil=>intro G _;simp[mU]
 | cons x r ih =>
   intro G hl;rw[mU];by_cases hk:x.kind=5
   ·rw[tl hk,ih _ (by rw[cR,hl]),Qw hl f _ ha hb,mt,tm hk]
    cases gA G a b <;> cases decide (f=(a:Int)) <;> cases decide (zH names x.name=(b:Int)) <;> simp
   ·rw[tg hk,ih _ hl,mt,th hk];simp
def zEA(names:List Bs)(a b:Nat)(x:zF):Bool:=decide (x.kind=3)&&(decide (zH names x.conc=(a:Int))&&(x.sum.any (fun y=>decide (zH names y.name=(b:Int))) || x.nd.any (fun y=>decide (y.kind=5)&&decide (zH names y.name=(b:Int)))))
theorem qz(ha:a<8)(hb:b<8):∀G,G.length=64->gA (mA names ls G) a b=(gA G a b || ls.any (zEA names a b)):=by
 induction ls with
 | nil=>intro G _;simp[mA]
 | cons x r ih =>
   intro G hl;rw[mA,mt];by_cases hk:x.kind=3
   ·have ex:zEA names a b x=(decide (zH names x.conc=(a:Int))&&(x.sum.any (fun y=>decide (zH names y.name=(b:Int))) || x.nd.any (fun y=>decide (y.kind=5)&&decide (zH names y.name=(b:Int))))):=by
     unfold zEA;rw[tm hk,md]
    rw[tl hk,ih _ (by rw[Gs,Jo,hl]),Gt _ _ _ ha hb _ (by rw[Jo,hl]),Gb _ _ _ ha hb _ hl,ex];generalize r.any (zEA names a b)=R;generalize x.sum.any (fun y=>decide (zH names y.name=(b:Int)))=s;generalize x.nd.any (fun y=>decide (y.kind=5)&&decide (zH names y.name=(b:Int)))=n;cases gA G a b <;> cases decide (zH names x.conc=(a:Int)) <;> cases s <;> cases n <;> simp
   ·have ex:zEA names a b x=false:=by unfold zEA;rw[th hk];rfl
    rw[tg hk,ih _ hl,ex,pm]
def zEU(labs:List Bs)(a b:Nat)(x:zF):Bool:=decide (x.kind=4)&&(decide (zH labs x.name=(a:Int))&&decide (zH labs x.lower=(b:Int)))
theorem V7(labs:List Bs)(ls:List zF)(ha:a<8)(hb:b<8):∀G,G.length=64->gA (jI labs ls G) a b=(gA G a b || ls.any (zEU labs a b)):=by
 induction ls with
 | nil=>intro G _;simp[jI]
 | cons x r ih =>
   intro G hl;rw[jI,mt];by_cases hk:x.kind=4
   ·rw[tl hk,ih _ (by rw[cR,hl]),Qw hl _ _ ha hb]
    unfold zEU;rw[tm hk];cases gA G a b <;> cases decide (zH labs x.name=(a:Int)) <;> cases decide (zH labs x.lower=(b:Int)) <;> simp
   ·rw[tg hk,ih _ hl]
    have:zEU labs a b x=false:=by unfold zEU;rw[th hk];rfl
    rw[this,pm]
theorem CI:gA gZ a b=false:=by
 unfold gA gZ;simp only[l8,List.getElem?_replicate];split <;> rfl
theorem qc{d:Bs}(hd:d≠[]):(S.flatMap rS).any (fun y=>decide (y.2=d))=S.any (fun x=>decide (x.name=d)):=by
 induction S with
 | nil=>rfl
 | cons x r ih =>
   rw[fe,df,ih,mt];congr 1
   unfold rS;by_cases h:x.name=[]
   ·rw[tl h,h,th (fun e=>hd e.symm)];rfl
   ·rw[tg h];simp
theorem qs:(tE N).any (fun y=>decide (y.1=1)&&decide (y.2=d))=N.any (fun x=>decide (x.kind=5)&&decide (x.name=d)):=by
 induction N with
 | nil=>rfl
 | cons x r ih =>
   unfold tE at ih ⊢;rw[fe,df,ih,mt];congr 1
   unfold VA;by_cases h5:x.kind=5
   ·rw[tl h5,tm h5];simp
   ·rw[tg h5,th h5]
    split
    ·simp
    ·split
     ·split <;> simp
     ·rfl
theorem zI1{names:List Bs}(hn:names.Nodup)(zIH:b<names.length->names.getD b []≠[])(x:zF):zEA names a b x=(decide (a<names.length)&&(decide (b<names.length)&&zHS (names.getD a []) (names.getD b []) x)):=by
 unfold zEA zHS
 have e:∀(nm:Bs) (k:Nat),decide (zH names nm=(k:Int))=(decide (k<names.length)&&decide (nm=names.getD k [])):=fun nm k=>by
  rw[ct,tz,pr,pr,pr,Uu hn];exact⟨fun h=>⟨h.1,h.2.symm⟩,fun h=>⟨h.1,h.2.symm⟩⟩
 simp only[e];by_cases hb:b<names.length
 ·rw[tm hb,qc _ (zIH hb),qs]
  simp only[md];cases decide (x.kind=3) <;> cases decide (a<names.length) <;> simp
 ·rw[th hb]
  simp
theorem zET{labs:List Bs}(hn:labs.Nodup)(x:zF):zEU labs a b x=(decide (a<labs.length)&&(decide (b<labs.length)&&zH8 (labs.getD a []) (labs.getD b []) x)):=by
 unfold zEU zH8
 have e:∀(nm:Bs) (k:Nat),decide (zH labs nm=(k:Int))=(decide (k<labs.length)&&decide (nm=labs.getD k [])):=fun nm k=>by
  rw[ct,tz,pr,pr,pr,Uu hn];exact⟨fun h=>⟨h.1,h.2.symm⟩,fun h=>⟨h.1,h.2.symm⟩⟩
 rw[e,e];cases decide (x.kind=4) <;> cases decide (a<labs.length) <;> cases decide (b<labs.length) <;> simp
theorem aQ(p:Bool)(q:zF->Bool)(ls:List zF):ls.any (fun x=>p&&q x)=(p&&ls.any q):=by
 induction ls with
 | nil=>simp
 | cons x r ih=>rw[mt,ih,mt];cases p <;> simp
theorem BP{ls:List zF}(hA:yP ls us)(h8:qD 3 ls<=8):fB us false=jY (mA (zT ls) ls gZ):=by
 obtain⟨hn,hmem,zIC⟩:=aK ls [] List.nodup_nil;have hl8:(zT ls).length<=8:=by unfold zT;simp at zIC;omega
 have zIH:∀b,b<(zT ls).length->(zT ls).getD b []≠[]:=by
  intro b hb e;have h1:(zT ls).getD b []∈zT ls:=by simp[List.getD,hb]
  rw[e]at h1;have h2:=(hmem []).1 h1;rcases h2 with h2|h2
  ·simp at h2
  ·obtain⟨x,hx,hc⟩:=mj.1 h2
   unfold Vd at hc;rw[tz,pr,pr]at hc
   have hex:∀ {ls:List zF} {us:List zG},yP ls us->x∈ls->∃u,LT x u:=by
    intro ls
    induction ls with
    | nil=>intro us _ h;simp at h
    | cons y r ih =>
      intro us hA h
      cases us with
      | nil=>exact absurd hA id
      | cons u us =>
        rcases pi.1 h with rfl|h
        ·exact⟨u,hA.1⟩
        ·exact ih hA.2 h
   obtain⟨u,hu⟩:=hex hA hx;obtain⟨w,hw⟩:=hu.rule (hu.k3.1 hc.1);exact hw.ne hc.2
 unfold fB YT;simp only[Qa hA];refine Jj (by rw[Zc];exact vE) hl8 (fun a b ha hb=>?_);rw[qz _ _ ha hb _ vE,CI,pm]
 have e1:ls.any (zEA (zT ls) a b)=(decide (a<(zT ls).length)&&(decide (b<(zT ls).length)&&ls.any (zHS ((zT ls).getD a []) ((zT ls).getD b [])))):=by
  rw[<-aQ,<-aQ];congr 1
  funext x
  exact zI1 hn (zIH b) x
 rw[e1];unfold Vb jE rL cY;simp only;rw[<-bE hA (fun x u hx=>(zCQ hx _ _).symm),tz,tz,pr,pr]
theorem XR:∀acc,(jG ls acc).length=acc.length+qD 3 ls/\(∀nm,nm∈jG ls acc ↔ (nm∈acc\/vR ls 3 nm=true)):=by
 induction ls with
 | nil=>intro acc;exact⟨by simp[jG,qD],fun nm=>by simp[jG,vR]⟩
 | cons x r ih =>
   intro acc;rw[jG,qD];by_cases hk:x.kind=3
   ·rw[tl hk,tl hk]
    obtain⟨h1,h2⟩:=ih (acc++[x.name]);refine⟨by rw[h1,tq,pd];omega,fun nm=>?_⟩;rw[h2,pt,pu];unfold vR;rw[mt,mz];unfold Zo;rw[tm hk,md,pr];constructor
    ·rintro((h|h)|h)
     ·exact .inl h
     ·exact .inr (.inl h.symm)
     ·exact .inr (.inr h)
    ·rintro(h|h|h)
     ·exact .inl (.inl h)
     ·exact .inl (.inr h.symm)
     ·exact .inr h
   ·rw[tg hk,tg hk]
    obtain⟨h1,h2⟩:=ih acc;refine⟨by omega,fun nm=>?_⟩;rw[h2];unfold vR;rw[mt];have:Zo 3 nm x=false:=by unfold Zo;rw[th hk];rfl
    rw[this,pm]
theorem XQ(h:∀i,i<ls.length->(lA ls i).kind=3->vR (ls.take i) 3 (lA ls i).name=false):(xH ls).Nodup:=by
 have key:∀n,n<=ls.length->(jG (ls.take n) []).Nodup:=by
  intro n
  induction n with
  | zero=>intro _;simp[jG]
  | succ n ih =>
    intro hn;rw[pJ ls n (by omega),Jy,jG,jG];split
    ·rename_i hk
     rw[List.nodup_append];refine⟨ih (by omega),by simp,fun a ha b hb=>?_⟩;rw[pu.1 hb];intro e;subst e;have:=((XR (ls.take n) []).2 (lA ls n).name).1 ha;rcases this with h1|h1
     ·simp at h1
     ·rw[h n (by omega) hk]at h1;exact absurd h1 (by decide)
    ·exact ih (by omega)
 have:=key ls.length (t9 _);rw[lj]at this;exact this
theorem FT{ls:List zF}(hA:yP ls us)(h8:qD 3 ls<=8)(hn:(xH ls).Nodup):fB us true=jY (jI (xH ls) ls gZ):=by
 have zIC:=(XR ls []).1;have hl8:(xH ls).length<=8:=by unfold xH;simp at zIC;omega
 unfold fB YT;simp only[ZL hA];refine Jj (by rw[fG];exact vE) hl8 (fun a b ha hb=>?_);rw[V7 _ _ ha hb _ vE,CI,pm]
 have e1:ls.any (zEU (xH ls) a b)=(decide (a<(xH ls).length)&&(decide (b<(xH ls).length)&&ls.any (zH8 ((xH ls).getD a []) ((xH ls).getD b [])))):=by
  rw[<-aQ,<-aQ];congr 1
  funext x
  exact zET hn x
 rw[e1];unfold Vb jE rL rX;simp only;rw[<-bE hA (fun x u hx=>(D7 hx _ _).symm),tz,tz,pr,pr]
end Go.Proofs.YtnbpdffdnphbeaaGreatDoor
