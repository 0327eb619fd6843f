import Derived.Test.YtnbpdffdnphbeabGreatDoorMRk
import Derived.Test.YtnbpdffdnphbeabGreatDoorMLoad
set_option maxHeartbeats 2000000
set_option maxRecDepth 100000
namespace Go.Proofs.YtnbpdffdnphbeabGreatDoor
open Go.RowKit
variable{G:List Bool}{ls:List zE}{t:TypeId}{y:zN}(w:World)(I:List zX)(b:Nat)
def Ue(I:List zX)(H:Nat)(rs:List MX)(G:List Bool)(i j:Nat):Prop:=i<j/\j<rs.length/\KA rs G i j=true/\zBK I H (jK rs i).1 (jK rs j).1
structure XC(I:List zX)(H:Nat)(r:xU):Prop where
 pl:aT r I.length (xN I)
 nd:∀c,mG r c=true->c<H
 ah:∀c,vP r c=true->c<H
 bd:∀i z,z∈xG r i -> -1000000<=z/\z<=1000000
theorem Co(x y:xU)(h1:x.guard.length<=10000)(h2:y.guard.length<=10000)(i:Nat):(tW I x y i).length<=100000:=by
 unfold tW fM;have a1:=bX (JP (jC I i).low (jC I i).high) (xG x i) (xG x i).length (tg _);rw[cd]at a1;have a2:=bX a1.1 (xG y i) (xG y i).length (tg _);rw[cd]at a2;have:=a1.2;have:=a2.2;have:=gJ x i;have:=gJ y i;simp only[tz,List.length_nil]at *;omega
def XA(I:List zX)(H:Nat)(x y:MX)(B b gi gh:Nat)(w w':World)(e:Ending):Prop:=∃r,e=.returned (.bool r)/\Below B w w'/\(r=false->¬zBK I H x.1 y.1)/\(r=true->∃(f:Nat->Int) (g:Nat->Bool),(w'.cell? ⟨b,12,none⟩=some (.slice (some ⟨gi,0,none⟩) I.length I.length)/\w'.cell? ⟨b,13,none⟩=some (.slice (some ⟨gh,0,none⟩) H H)/\w'.cell? ⟨b,14,none⟩=some (.slice none 0 0))/\kG w' gi 3 I.length (fun i=>.int .i64 (f i))/\kG w' gh 4 H (fun c=>.bool (g c))/\dN I H ⟨(List.range I.length).map f,(List.range H).map g,[]⟩/\jN x.1 ⟨(List.range I.length).map f,(List.range H).map g,[]⟩=true/\jN y.1 ⟨(List.range I.length).map f,(List.range H).map g,[]⟩=true)
theorem zH2(F:Nat->List (Int × Int))(L:List NE)(p:Nat)(hp:p<L.length)(r:Nat)(hr:r<5):(aB F L)[p*5+r]? = (zFH F (L.getD p Zx))[r]? := zR (zFH F) 5 (fun _=>rfl) Zx L p r hp hr
theorem zGS(wr:World)(b:Nat)(I:List zX)(H:Nat)(x y:MX)(gi gh:Nat)(nv sv:Value)(L:List NE)(hN:zIC w wr I.length H gi gh (tW I x.1 y.1) nv sv L (qD I x.1 y.1 I.length++uL x.1 y.1 H) (lK I I.length) (lN x.1 y.1 H))(hL:L.map NE.place=vI I x.1 y.1)(hb:wr.heap[b]? = some (.cells (Uz x y nv sv (.slice (some ⟨gi,0,none⟩) I.length I.length) (.slice (some ⟨gh,0,none⟩) H H)) 170 (0,0)))(hlb:w.heap.size<=b)(hI:oS I)(fH:H<=10000)(hx:qK w x)(hy:qK w y)(ox:XC I H x.1)(oy:XC I H y.1) :
 Calls Tryz.prog 67 #[.pointer (some ⟨b,0,none⟩),.int .i64 0] wr fun e w'=>XA I H x y w.heap.size b gi gh wr w' e:=by
 obtain⟨na,nc,rfl⟩:=zO hN.nums;obtain⟨sa,sc,rfl,hsw⟩:=uM hN.sws;have hzf:=Co I x.1 y.1 hx.few2 hy.few2
 obtain⟨gn,hgn1,hgn2⟩:∃gn,(0<L.length->na=some ⟨gn,0,none⟩/\kG wr gn 223 (5*L.length) (fun j=>(aB (tW I x.1 y.1) L).getD j (.slice none 0 0)))/\(0<L.length->w.heap.size<=gn):=by
  rcases hN.nums.2 with ⟨_,k2⟩|⟨g,cap,yT,k1,k2,k3,k4,k5,k6,k7⟩
  ·exact⟨0,fun h=>absurd h (by omega),fun h=>absurd h (by omega)⟩
  ·simp only[dz]at k1
   refine⟨g,fun _=>⟨k1.1,yT,k3,fun j hj=>?_⟩,fun _=>by omega⟩;have hl:(aB (tW I x.1 y.1) L).length=L.length*5:=hN.nums.1;have hj2:j<(aB (tW I x.1 y.1) L).length:=by omega
   have:=xE k3 (n:=L.length*5) k7 (pw hj2);rw[zC k3 j]at this;rw[this];simp[List.getD,hj2]
 have ok:=zJ1 (b:=b) (na:=na) (gn:=gn) (nc:=nc) (sa:=sa) (sc:=sc) (gi:=gi) (gh:=gh) hL hI fH hzf hlb hN.loi hN.loh hgn2
 have hM:kW wr (cN w b I H x y L na gn nc sa sc gi gh) (yv I H x y):=by
  refine⟨hb,fun h0=>⟨(hgn1 h0).1,?_⟩,hN.rI,hN.rH,hsw,fun p hp=>?_,hx.below hN.bel,hy.below hN.bel⟩
  ·obtain⟨cs,q1,q2⟩:=(hgn1 h0).2
   refine⟨cs,q1,fun j hj=>?_⟩;rw[q2 j hj];have hj5:j/5<L.length:=by have:j<5*L.length:=hj;omega
   have hr:j%5<5:=Nat.mod_lt _ (by decide);have hat:=zH2 (tW I x.1 y.1) L (j/5) hj5 (j%5) hr;rw[show j/5*5+j%5=j by omega]at hat;show some ((aB (tW I x.1 y.1) L).getD j (.slice none 0 0))=_;rw[ma,hat];unfold rT cN yv;rcases(show j%5=0\/j%5=1\/j%5=2\/j%5=3\/j%5=4 by omega) with h|h|h|h|h <;> rw[h] <;> simp[zFH]
  ·have hm:L.getD p Zx∈L:=by simp[List.getD,show p<L.length from hp]
   exact hN.zn _ hm
 refine(XU _ ok L.length 0 wr _ (by show 0+L.length=L.length;omega) (fun p hp=>absurd hp (by omega)) hM).mono ?_;rintro e w' ⟨r,s',rfl,h1,h2,h3⟩;refine⟨r,rfl,h2,fun hr=>?_,fun hr=>?_⟩
 ·subst hr
  refine zCQ hL hI ox.pl oy.pl (fun c hc=>?_) (fun c hc=>?_) h3
  ·unfold uE at hc;rcases(cr _ _).mp hc with h|h
   ·exact ox.nd c h
   ·exact oy.nd c h
  ·rcases(cr _ _).mp hc with h|h
   ·exact ox.ah c h
   ·exact oy.ah c h
 ·subst hr
  obtain⟨k1,k2,k3⟩:=x7 hL hI h3;exact⟨s'.inp,s'.has,⟨h1.cells 12,h1.cells 13,h1.cells 14⟩,h1.rI,h1.rH,k1,k2,k3⟩
theorem zIC.below{w wr wy:World}{n h gi gh:Nat}{F:Nat->List (Int × Int)}{nv sv:Value}{L:List NE}{T:List jV}{inp:Nat->Int}{has:Nat->Bool}(k:zIC w wr n h gi gh F nv sv L T inp has)(hb:Below wr.heap.size wr wy):zIC w wy n h gi gh F nv sv L T inp has :=
 ⟨k.bel.trans (hb.mono k.bel.size),eE k.nums hb,fun q hq=>(k.zn q hq).below hb,eE k.sws hb,k.rI.below hb,k.rH.below hb,k.loi,k.loh⟩
theorem x8(w2:World)(I:List zX)(H:Nat)(x y:MX)(e:Ending)(hp:Kd I H x y w w2 e)(hI:oS I)(fH:H<=10000)(hx:qK w x)(hy:qK w y)(ox:XC I H x.1)(oy:XC I H y.1):∃SR gi gh,e=.returned (.agg SR)/\SR.size=15/\(Tryz.prog.info? 170).map (·.size)=some SR.size/\SR.all (·.oneCell')=true/\Below w.heap.size w w2/\∀(b:Nat) (wr:World),Below w2.heap.size w2 wr->w2.heap.size<=b->wr.heap[b]? = some (.cells SR 170 (0,0))->Calls Tryz.prog 67 #[.pointer (some ⟨b,0,none⟩),.int .i64 0] wr fun e w'=>XA I H x y w.heap.size b gi gh wr w' e:=by
 obtain⟨gi,gh,nv,sv,L,rfl,hN,hL⟩:=hp;have hb:=hN.bel;obtain⟨a1,c1,e1,-⟩:=hx.sum;obtain⟨a2,c2,e2,-⟩:=hx.guard;obtain⟨a3,c3,e3,-⟩:=hy.sum;obtain⟨a4,c4,e4,-⟩:=hy.guard;obtain⟨na,nc,e5⟩:=zO hN.nums;obtain⟨sa,sc,e6⟩:=zO hN.sws;refine⟨_,gi,gh,rfl,rfl,yw _ _ _ _ _ _,C3 (by rw[e1];rfl) (by rw[e2];rfl) (by rw[e3];rfl) (by rw[e4];rfl) (by rw[e5];rfl) (by rw[e6];rfl) rfl rfl,hb,fun b wr h1 h2 h3=>zGS w wr b I H x y gi gh nv sv L (hN.below h1) hL h3 (by have:=hb.size;omega) hI fH hx hy ox oy⟩
theorem zDC(h:tH ls){x:zE}(hx:x∈ls)(hk:x.kind=3):∀y∈x.nd,vE ls y=true:=by
 obtain⟨i,hi,rfl⟩:=Bq hx;have he:=h.err i hi;unfold lE at he;rw[tj (by omega),tj (by omega),tr hk]at he;unfold bF at he
 have hb:(uP (ls.take i) 3 (lA ls i).name || ((lA ls i).sum.any (fun x => !qH ls x) || (lA ls i).nd.any (fun x => !vE ls x)))=false:=by
  cases hc:(uP (ls.take i) 3 (lA ls i).name || ((lA ls i).sum.any (fun x => !qH ls x) || (lA ls i).nd.any (fun x => !vE ls x))) with
  | false=>rfl
  | true=>rw[hc,tr rfl]at he;exact absurd he (by decide)
 rw[cf,cf]at hb;intro y hy;have:=List.any_eq_false.1 hb.2.2 y hy;simpa using this
theorem zDH(h:vE ls y=true)(k:y.kind=6):uP ls 2 y.name=true:=by unfold vE at h;rwa [tj (by omega),tr k]at h
theorem uc(h:vE ls y=true)(k:y.kind=7):uP ls 1 y.name=true/\(y.other≠[]->uP ls 1 y.other=true):=by
 unfold vE at h;rw[tj (by omega),tj (by omega),tr k,mc,cr,mj]at h;exact⟨h.2,fun ho=>h.1.resolve_left ho⟩
theorem JL(h:tH ls){nm:Bs}{k:Int}(hk:k=1\/k=2)(hh:uP ls k nm=true):∃i:Nat,zJ (qW ls) nm=i/\i<(yI ls).length/\xN (yI ls) i=decide (k=1):=by
 obtain⟨z,z1,z2,z3⟩:=zJ7 hh;have hz:z∈GL ls:=zJ9 z1 (by omega);have hm:nm∈qW ls:=by rw[Xh];exact pd.2 ⟨z,hz,z3⟩
 have h0:=(ji _ _).2 hm;have h1:=fG (qW ls) nm;obtain⟨i,hi⟩:∃i:Nat,zJ (qW ls) nm=i:=⟨(zJ (qW ls) nm).toNat,by omega⟩;have zJS:i<(yI ls).length:=by rw[<-zH1];omega
 have hat:=((Gb nm (qW ls) (Xd h) 0 i).1 (by rw[db];exact hi)).2;obtain⟨x,x1,-,x3,x4⟩:=Xg zJS;have e:x=z:=zHK h x1 hz (by rw[<-x4,hat,z3]);refine⟨i,hi,zJS,?_⟩;unfold xN;rw[x3,e,aE (JJ hz),z2]
theorem zH5{N:List zN}(hg:lS N)(hy:y∈N)(hk:y.kind=7):0<=y.num/\y.num<=9999:=by
 obtain⟨a,ha,rfl⟩:=List.getElem_of_mem hy;have e:qP N a=N[a]:=by unfold qP;simp[List.getD,ha]
 have:=(hg a ha).2.2.2 (by rw[e];omega) (by rw[e];omega) (by rw[e];omega);rw[e]at this;exact this.2
theorem zGV(h:tH ls){x:zE}(hx:x∈ls)(hk:x.kind=3)(hg:oT x):XC (yI ls) (yY ls).length (qM (qW ls) (yY ls) x):=by
 have hN:=zDC h hx hk;have mem:∀y∈(qM (qW ls) (yY ls) x).guard,∃z∈x.nd,mH (qW ls) (yY ls) z=y:=fun y hy=>pd.1 hy;refine⟨⟨fun y hy hyk=>?_,fun y hy hyk=>?_,fun y hy hyk ht=>?_⟩,fun c hc=>?_,fun c hc=>?_,fun i z hz=>?_⟩
 ·obtain⟨z,hz,rfl⟩:=mem y hy
  have hzk:z.kind=6:=hyk;obtain⟨i,h1,h2,h3⟩:=JL h (.inr rfl) (zDH (hN z hz) hzk);refine⟨i,h2,?_,h3⟩;show CG (qW ls) (yY ls) z=_;unfold CG;rw[tj (by omega),tr (.inl hzk),h1]
 ·obtain⟨z,hz,rfl⟩:=mem y hy
  have hzk:z.kind=7:=hyk;obtain⟨i,h1,h2,h3⟩:=JL h (.inl rfl) (uc (hN z hz) hzk).1;refine⟨i,h2,?_,h3⟩;show CG (qW ls) (yY ls) z=_;unfold CG;rw[tj (by omega),tr (.inr hzk),h1]
 ·obtain⟨z,hz,rfl⟩:=mem y hy
  have hzk:z.kind=7:=hyk;have ho:z.other≠[]:=cg ht;obtain⟨i,h1,h2,h3⟩:=JL h (.inl rfl) ((uc (hN z hz) hzk).2 ho);refine⟨i,h2,?_,h3⟩;show zFJ (qW ls) z=_;unfold zFJ;rw[tj ho,h1]
 ·obtain⟨p,hp,e⟩:=l8.1 hc
  rw[mc,mj,mj]at e;obtain⟨q,hq,rfl⟩:=pd.1 hp;have e1:zFI (qW ls) q=3:=e.1;have e2:zIN (qW ls) (yY ls) q=(c:Int):=e.2;unfold zFI at e1;unfold zIN at e2;by_cases hq0:q.name=[]
  ·rw[tr hq0]at e1;exact absurd e1 (by decide)
  ·rw[tj hq0]at e1 e2
   by_cases hq1:zJ (qW ls) q.name<0
   ·rw[tr hq1]at e2
    have:=fG (yY ls) q.name;omega
   ·rw[tj hq1]at e1;exact absurd e1 (by decide)
 ·obtain⟨y,hy,e⟩:=l8.1 hc
  rw[mc,mj,mj]at e;obtain⟨z,hz,rfl⟩:=mem y hy;have e1:z.kind=5:=e.1;have e2:CG (qW ls) (yY ls) z=(c:Int):=e.2;unfold CG at e2;rw[tr e1]at e2;have:=fG (yY ls) z.name;omega
 ·obtain⟨y,hy,rfl⟩:=pd.1 hz
  obtain⟨h1,h2⟩:=mw.1 hy;rw[mc,mj]at h2;obtain⟨v,hv,rfl⟩:=mem y h1;have:=zH5 hg.nodes hv h2.1;show -1000000<=v.num/\v.num<=1000000;omega
theorem zE5(h:tH ls)(hg:∀x∈ls,oT x):oS (yI ls):=by
 refine⟨fun i hi hn=>?_,fun i hi hn=>?_,by have:=Vl h;omega⟩
 ·obtain⟨x,x1,x2,x3,-⟩:=Xg hi
  have hk:x.kind=1:=by unfold xN at hn;rw[x3,aE (JJ x1)]at hn;exact cg hn
  have hp:=hg x x2;have:=qe h x2 hk;have e1:=hp.lo0;have e2:=hp.hi1;rw[x3];unfold mS;rw[tr hk];exact⟨e1,this,e2⟩
 ·obtain⟨x,x1,x2,x3,-⟩:=Xg hi
  have hk:¬x.kind=1:=by unfold xN at hn;rw[x3,aE (JJ x1)]at hn;exact of_decide_eq_false hn
  rw[x3];unfold mS;rw[tj hk]
theorem zEA:(Tryz.prog.info? 95).map (fun i=>(i.zero,i.size,i.bytes))=some (some (.agg #[.string ⟨#[]⟩,.int .i64 0]),2,24):=by kernel_rfl
def tN(I:List zX)(f:Nat->Int)(i:Nat):List Value:=(List.range i).flatMap fun j=>[.string ⟨(jC I j).name.toArray⟩,.int .i64 (f j)]
def mQ(C:List (Bs × Nat))(g:Nat->Bool)(c:Nat):List Value:=(List.range c).flatMap fun j=>[.string ⟨(C.getD j ([],0)).1.toArray⟩,.int .i64 (if g j=true then 1 else 0)]
theorem U4(f:Nat->Int)(i:Nat):tN I f (i+1)=tN I f i++[.string ⟨(jC I i).name.toArray⟩,.int .i64 (f i)]:=by unfold tN;rw[ly,lk];simp
theorem U6(C:List (Bs × Nat))(g:Nat->Bool)(c:Nat):mQ C g (c+1)=mQ C g c++[.string ⟨(C.getD c ([],0)).1.toArray⟩,.int .i64 (if g c=true then 1 else 0)]:=by unfold mQ;rw[ly,lk];simp
theorem qb{w:World}{a:Option Addr}{C:List (Bs × Nat)}(h:jQ w a (Zy C)){i:Nat}(hi:i<C.length):∃g,a=some ⟨g,0,none⟩/\w.cell? ⟨g,i*2,none⟩=some (.string ⟨(C.getD i ([],0)).1.toArray⟩)/\w.cell? ⟨g,i*2+1,none⟩=some (.int .i64 ((C.getD i ([],0)).2:Nat)):=by
 obtain⟨g,e,q1⟩:=h.at ((zR (fun x:Bs × Nat=>[Value.string ⟨x.1.toArray⟩,.int .i64 (x.2:Nat)]) 2 (fun _=>rfl) ([],0) C i 0 hi (by decide)).trans rfl);obtain⟨g',e',q2⟩:=h.at ((zR (fun x:Bs × Nat=>[Value.string ⟨x.1.toArray⟩,.int .i64 (x.2:Nat)]) 2 (fun _=>rfl) ([],0) C i 1 hi (by decide)).trans rfl);obtain rfl:g=g':=by rw[e]at e';simpa using e'
 exact⟨g,e,q1,q2⟩
theorem K2(o:Nat)(I:List zX)(C:List (Bs × Nat))(rs:List MX)(G:List Bool)(gi gh:Nat)(f:Nat->Int)(gg:Nat->Bool)(h:XZ w b o I C rs G)(hI:kG w gi 3 I.length (fun i=>.int .i64 (f i)))(hH:kG w gh 4 C.length (fun c=>.bool (gg c))) :
 Calls Tryz.prog 68 #[.pointer (some ⟨b,o,none⟩),.agg #[.slice (some ⟨gi,0,none⟩) I.length I.length,.slice (some ⟨gh,0,none⟩) C.length C.length,.slice none 0 0]] w fun e w'=>∃v,e=.returned v/\w'.ownsRow w.heap.size 95 2 v (I.length+C.length) (tN I f I.length++mQ C gg C.length)/\Below w.heap.size w w':=by
 obtain⟨i0,hi0,hz0,hz1,hz2⟩:=info_parts zEA;obtain⟨ia,ic,c0,hia⟩:=h.inp;obtain⟨ca,cc,c1,hca⟩:=h.con;have fI:=h.few1;have fC:=h.few2;have zKD:=zA (fun w' (hb:Below w.heap.size w w') i (hi:i<I.length)=>Q8 (hia.below hb).cel hi);have HCo:=zA (fun w' (hb:Below w.heap.size w w') i (hi:i<C.length)=>qb (hca.below hb).cel hi);have HMd:Hid (∀w',Below w.heap.size w w'->w'.cell? ⟨b,o,none⟩=some (.slice ia I.length ic)/\w'.cell? ⟨b,o+1,none⟩=some (.slice ca C.length cc)):=fun w' hb=>⟨(hb.cell (p:=⟨b,o,none⟩) (zY c0)).trans c0,(hb.cell (p:=⟨b,o+1,none⟩) (zY c1)).trans c1⟩;have HRI:Hid (∀w',Below w.heap.size w w'->∀i,i<I.length->w'.cell? ⟨gi,i,none⟩=some (.int .i64 (f i))):=fun w' hb i hi=>(hI.below hb).cell hi;have HRH:Hid (∀w',Below w.heap.size w w'->∀i,i<C.length->w'.cell? ⟨gh,i,none⟩=some (.bool (gg i))):=fun w' hb i hi=>(hH.below hb).cell hi;have lb:=zY c0;clear h hia hca hI hH c0 c1
 go_enter Tryz.func68,Tryz.ntmps68
 go_upto_region 2 with fail
 have HB0:Hid (Below w.heap.size w ((w.alloc (.cells #[.slice (some ⟨gi,0,none⟩) I.length I.length,.slice (some ⟨gh,0,none⟩) C.length C.length,.slice none 0 0] 168)).alloc (.cells #[] 95))):=(fe (tg _) _).alloc (by simp) _;have HX0:Hid (((w.alloc (.cells #[.slice (some ⟨gi,0,none⟩) I.length I.length,.slice (some ⟨gh,0,none⟩) C.length C.length,.slice none 0 0] 168)).alloc (.cells #[] 95)).heap[w.heap.size]? = some (.cells #[.slice (some ⟨gi,0,none⟩) I.length I.length,.slice (some ⟨gh,0,none⟩) C.length C.length,.slice none 0 0] 168 (0,0))):=yD (zH _ _);have HO0:Hid (((w.alloc (.cells #[.slice (some ⟨gi,0,none⟩) I.length I.length,.slice (some ⟨gh,0,none⟩) C.length C.length,.slice none 0 0] 168)).alloc (.cells #[] 95)).ownsRow (w.heap.size+1) 95 2 (.slice (some ⟨w.heap.size+1,0,none⟩) 0 0) 0 (tN I f 0)):=⟨rfl,.inr ⟨w.heap.size+1,0,#[],rfl,tg _,vT _ _ _ (by simp),tg _,p7 _,rfl,rfl⟩⟩;have hs0:w.heap.size+1<=((w.alloc (.cells #[.slice (some ⟨gi,0,none⟩) I.length I.length,.slice (some ⟨gh,0,none⟩) C.length C.length,.slice none 0 0] 168)).alloc (.cells #[] 95)).heap.size:=by simp
 generalize (w.alloc (.cells #[.slice (some ⟨gi,0,none⟩) I.length I.length,.slice (some ⟨gh,0,none⟩) C.length C.length,.slice none 0 0] 168)).alloc (.cells #[] 95)=w0 at *;generalize Value.slice (some ⟨w.heap.size+1,0,none⟩) 0 0=v0 at *;have HG:Hid (∀wr,Below (w.heap.size+1) w0 wr->Below w.heap.size w wr/\wr.heap[w.heap.size]? = some (.cells #[.slice (some ⟨gi,0,none⟩) I.length I.length,.slice (some ⟨gh,0,none⟩) C.length C.length,.slice none 0 0] 168 (0,0))):=fun wr hb=>⟨HB0.out.trans (hb.mono (mu _)),(hb.block _ (mt _)).trans HX0.out⟩;obtain⟨d0,d1⟩:=HMd.out w0 HB0.out;clear HB0 HX0;go_wp2_with fail
 go_loopw [5,17] (fun ov iv wr=>∃(i:Nat),i<=I.length/\iv=.int .i64 i/\Hid (Below (w.heap.size+1) w0 wr)/\Hid (wr.ownsRow (w.heap.size+1) 95 2 ov i (tN I f i))) (fun _ iv _=>I.length-(intOf iv).toNat)
 case atStart=>exact⟨0,p7 _,rfl,zA (tl _ _),HO0⟩
 case round =>
  obtain⟨i,hi,rfl,HB,HO⟩:=hrel;have zK6:=HB.out.size;obtain⟨hBw,hX⟩:=HG.out wr HB.out;by_cases zJS:i<I.length
  ·have ii:(i:Int)<(I.length:Int):=by omega
   obtain⟨g,rfl,n0,n1,n2,n3⟩:=zKD.out wr hBw i zJS;have ci:=HRI.out wr hBw i zJS;have x0:wr.cell? ⟨w.heap.size,0,none⟩=some (.slice (some ⟨gi,0,none⟩) I.length I.length):=zC hX 0;have lg:=zY n0;have lgi:=zY ci;have lx:=zY x0;have m1:wr.heap.size≠g:=by omega
   have m2:wr.heap.size≠gi:=by omega
   have m3:wr.heap.size≠w.heap.size:=by omega
   obtain⟨oa,oc,rfl⟩:=zO HO.out;have HVs:=zA (U4 I f i);have HO1:Hid (∀ob,(wr.alloc ob).ownsRow (w.heap.size+1) 95 2 (.slice oa i oc) i (tN I f i)):=fun ob=>HO.out.alloc ob;have HB1:Hid (∀ob,Below (w.heap.size+1) w0 (wr.alloc ob)):=fun ob=>HB.out.alloc (by omega) ob;clear hX hBw;generalize jC I i=xi at *;obtain⟨xn,xf,xl,xh⟩:=xi;simp only at n0 n1 n2 n3 HVs;generalize f i=fv at *
   go_upto_region 5 with fail
   have c5a:(wr.alloc (.cells #[.string ⟨xn.toArray⟩,.bool xf,.int .i64 xl,.int .i64 xh] 204)).cell? ⟨wr.heap.size,0,none⟩=some (.string ⟨xn.toArray⟩):=zC (zH _ _) 0;have c5b:(wr.alloc (.cells #[.string ⟨xn.toArray⟩,.bool xf,.int .i64 xl,.int .i64 xh] 204)).cell? ⟨w.heap.size,0,none⟩=some (.slice (some ⟨gi,0,none⟩) I.length I.length):=(((tl wr.heap.size wr).alloc (tg _) _).cell (p:=⟨w.heap.size,0,none⟩) lx).trans x0;have c5c:(wr.alloc (.cells #[.string ⟨xn.toArray⟩,.bool xf,.int .i64 xl,.int .i64 xh] 204)).cell? ⟨gi,i,none⟩=some (.int .i64 fv):=(((tl wr.heap.size wr).alloc (tg _) _).cell (p:=⟨gi,i,none⟩) lgi).trans ci;have HO5:=zA (HO1.out (.cells #[.string ⟨xn.toArray⟩,.bool xf,.int .i64 xl,.int .i64 xh] 204));have HB5:=zA (HB1.out (.cells #[.string ⟨xn.toArray⟩,.bool xf,.int .i64 xl,.int .i64 xh] 204));have hs5:w.heap.size+1<=(wr.alloc (.cells #[.string ⟨xn.toArray⟩,.bool xf,.int .i64 xl,.int .i64 xh] 204)).heap.size:=by simp;omega
   clear n0 n1 n2 n3 x0 ci HO1 HB1;generalize wr.alloc (.cells #[.string ⟨xn.toArray⟩,.bool xf,.int .i64 xl,.int .i64 xh] 204)=w5 at *;go_wp2_with fail
   go_region_law ((refine step_append_lies _ (by rfl) _ _ _ (by rfl) (w.heap.size+1) 95 i0 _ 2 24 Tryz.underlying71 hi0 hz0 hz1 hz2 rfl (by decide) (.slice oa i oc) i (tN I f i) (by rfl) (HO5.out.drew.alloc _) ⟨w5.heap.size,0,none⟩ 1 1 [.string ⟨xn.toArray⟩,.int .i64 fv] (by rfl) (by rfl) (zM _ _ _ _ rfl) (by simp[Value.oneCell']) (by decide) (by unfold maxLen;omega) (by omega) (by simp;omega) (w5.heap.size+1) (by simp) ?_;intro g2 cap w6 zK0 zJT hat hlt5))
   all_goals
    have HB6:Hid (Below (w.heap.size+1) w0 w6):=(HB5.out.drew.alloc hs5 _).grown zJT (by show w.heap.size+1<=(w5.drew.alloc _).heap.size;simp;omega) (zV HO5.out);have HO6:Hid (w6.ownsRow (w.heap.size+1) 95 2 (.slice (some ⟨g2,0,none⟩) (i+1) cap) (i+1) (tN I f (i+1))):=by unfold Hid;rw[HVs.out];exact zK0
    clear zJT zK0 hat hlt5;go_wp2_with fail
    go_roundw
    case rel=>exact⟨i+1,by omega,by go_num,HB6,HO6⟩
    case measure=>simp[intOf];omega
  ·obtain rfl:i=I.length:=by omega
   have ii:¬(I.length:Int)<(I.length:Int):=by omega
   obtain⟨k0,k1⟩:=HMd.out wr hBw
   have HO1:Hid (∀ov,wr.ownsRow (w.heap.size+1) 95 2 ov I.length (tN I f I.length)->wr.ownsRow (w.heap.size+1) 95 2 ov (I.length+0) (tN I f I.length++mQ C gg 0)):=fun ov h=>by
    have e:tN I f I.length++mQ C gg 0=tN I f I.length:=ms _;rw[e];exact h
   have HO2:=zA (HO1.out _ HO.out);clear HO1 HO hX hBw d0 d1;generalize hSI:tN I f I.length=SI at *;have HSI:=zA hSI;clear hSI;generalize hwr:wr=wq at *;clear hwr;go_wp2_with fail
   go_loopw [5,39] (fun ov iv wr=>∃(c:Nat),c<=C.length/\iv=.int .i64 c/\Hid (Below (w.heap.size+1) w0 wr)/\Hid (wr.ownsRow (w.heap.size+1) 95 2 ov (I.length+c) (SI++mQ C gg c))) (fun _ iv _=>C.length-(intOf iv).toNat)
   case atStart=>exact⟨0,p7 _,rfl,HB,HO2⟩
   case round =>
    obtain⟨c,hc,rfl,HBc,HOc⟩:=hrel;have hszc:=HBc.out.size;obtain⟨hBw,hX⟩:=HG.out wr HBc.out;obtain⟨oa,oc,rfl⟩:=zO HOc.out;by_cases hltc:c<C.length
    ·have jj:(c:Int)<(C.length:Int):=by omega
     obtain⟨g,rfl,n0,n1⟩:=HCo.out wr hBw c hltc;have ch:=HRH.out wr hBw c hltc;have x1:wr.cell? ⟨w.heap.size,1,none⟩=some (.slice (some ⟨gh,0,none⟩) C.length C.length):=zC hX 1;have lg:=zY n0;have lgh:=zY ch;have lx:=zY x1;have m1:wr.heap.size≠g:=by omega
     have m2:wr.heap.size≠gh:=by omega
     have m3:wr.heap.size≠w.heap.size:=by omega
     have HVs:=zA (U6 C gg c);have HO1:Hid (∀ob,(wr.alloc ob).ownsRow (w.heap.size+1) 95 2 (.slice oa (I.length+c) oc) (I.length+c) (SI++mQ C gg c)):=fun ob=>HOc.out.alloc ob;have HB1:Hid (∀ob,Below (w.heap.size+1) w0 (wr.alloc ob)):=fun ob=>HBc.out.alloc (by omega) ob;clear hX hBw;generalize (C.getD c ([],0)).1=cn at *;generalize (C.getD c ([],0)).2=cl at *;generalize gg c=gv at *;cases gv
     ·rw[tj (by simp)]at HVs
      go_upto_region 13 with fail
      have c5a:(wr.alloc (.cells #[.string ⟨cn.toArray⟩,.int .i64 (cl:Nat)] 208)).cell? ⟨wr.heap.size,0,none⟩=some (.string ⟨cn.toArray⟩):=zC (zH _ _) 0;have HO5:=zA (HO1.out (.cells #[.string ⟨cn.toArray⟩,.int .i64 (cl:Nat)] 208));have HB5:=zA (HB1.out (.cells #[.string ⟨cn.toArray⟩,.int .i64 (cl:Nat)] 208));have hs5:w.heap.size+1<=(wr.alloc (.cells #[.string ⟨cn.toArray⟩,.int .i64 (cl:Nat)] 208)).heap.size:=by simp;omega
      clear n0 n1 x1 ch HO1 HB1;generalize wr.alloc (.cells #[.string ⟨cn.toArray⟩,.int .i64 (cl:Nat)] 208)=w5 at *
      go_wp2_with (at_builtin;refine wpList_append_own _ rfl _ _ 71 rfl (w.heap.size+1) 95 i0 _ 2 24 Tryz.underlying71 hi0 hz0 hz1 hz2 rfl (by decide) _ _ _ rfl (HO5.out.alloc _) ⟨w5.heap.size,0,none⟩ 1 1 [.string ⟨cn.toArray⟩,.int .i64 0] rfl rfl ?c1k1 ?c1k2 ?c1k3 ?c1k4 ?c1k5 ?_)
      try (case c1k1=>first|exact zM _ _ _ _ rfl|exact fun _ _ h=>h)
      try (case c1k2=>first|exact⟨rfl,rfl⟩|(intro u hu;simp at hu;rcases hu with rfl|rfl <;> rfl))
      try (case c1k3=>unfold maxLen;omega)
      try (case c1k4=>omega)
      try (case c1k5=>first|omega|(simp;omega))
      intro v6 w6 zJR zJQ _;have HB6:Hid (Below (w.heap.size+1) w0 w6):=(HB5.out.alloc hs5 _).grown zJQ (by simp;omega) (zV HO5.out);have HO6:Hid (w6.ownsRow (w.heap.size+1) 95 2 v6 (I.length+(c+1)) (SI++mQ C gg (c+1))):=by unfold Hid;rw[HVs.out,<-df];first|exact zJR|(rw[<-pj];exact zJR)
      clear zJR zJQ;go_wp2_with fail
      go_roundw
      case rel=>exact⟨c+1,by omega,by go_num,HB6,HO6⟩
      case measure=>simp[intOf];omega
     ·rw[tr rfl]at HVs
      go_upto_region 13 with fail
      have c5a:(wr.alloc (.cells #[.string ⟨cn.toArray⟩,.int .i64 (cl:Nat)] 208)).cell? ⟨wr.heap.size,0,none⟩=some (.string ⟨cn.toArray⟩):=zC (zH _ _) 0;have HO5:=zA (HO1.out (.cells #[.string ⟨cn.toArray⟩,.int .i64 (cl:Nat)] 208));have HB5:=zA (HB1.out (.cells #[.string ⟨cn.toArray⟩,.int .i64 (cl:Nat)] 208));have hs5:w.heap.size+1<=(wr.alloc (.cells #[.string ⟨cn.toArray⟩,.int .i64 (cl:Nat)] 208)).heap.size:=by simp;omega
      clear n0 n1 x1 ch HO1 HB1;generalize wr.alloc (.cells #[.string ⟨cn.toArray⟩,.int .i64 (cl:Nat)] 208)=w5 at *
      go_wp2_with (at_builtin;refine wpList_append_own _ rfl _ _ 71 rfl (w.heap.size+1) 95 i0 _ 2 24 Tryz.underlying71 hi0 hz0 hz1 hz2 rfl (by decide) _ _ _ rfl (HO5.out.alloc _) ⟨w5.heap.size,0,none⟩ 1 1 [.string ⟨cn.toArray⟩,.int .i64 1] rfl rfl ?c2k1 ?c2k2 ?c2k3 ?c2k4 ?c2k5 ?_)
      try (case c2k1=>first|exact zM _ _ _ _ rfl|exact fun _ _ h=>h)
      try (case c2k2=>first|exact⟨rfl,rfl⟩|(intro u hu;simp at hu;rcases hu with rfl|rfl <;> rfl))
      try (case c2k3=>unfold maxLen;omega)
      try (case c2k4=>omega)
      try (case c2k5=>first|omega|(simp;omega))
      intro v6 w6 zJR zJQ _;have HB6:Hid (Below (w.heap.size+1) w0 w6):=(HB5.out.alloc hs5 _).grown zJQ (by simp;omega) (zV HO5.out);have HO6:Hid (w6.ownsRow (w.heap.size+1) 95 2 v6 (I.length+(c+1)) (SI++mQ C gg (c+1))):=by unfold Hid;rw[HVs.out,<-df];first|exact zJR|(rw[<-pj];exact zJR)
      clear zJR zJQ;go_wp2_with fail
      go_roundw
      case rel=>exact⟨c+1,by omega,by go_num,HB6,HO6⟩
      case measure=>simp[intOf];omega
    ·obtain rfl:c=C.length:=by omega
     have jj:¬(C.length:Int)<(C.length:Int):=by omega
     have HFn:=zA (yS HOc.out (mu w.heap.size));have HBf:=zA hBw;clear HOc hX hBw;go_wp2_with fail
     go_ret
     exact⟨_,rfl,by rw[HSI.out];exact HFn.out,HBf.out⟩
def aZ(I:List zX)(H:Nat)(f:Nat->Int)(g:Nat->Bool):xQ:=⟨(List.range I.length).map f,(List.range H).map g,[]⟩
def XG(I:List zX)(C:List (Bs × Nat))(rs:List MX)(G:List Bool)(w w':World)(e:Ending):Prop:=Below w.heap.size w w'/\((∃(i j:Nat) (f:Nat->Int) (g:Nat->Bool) (la:Option Addr) (sv:Value),Cn (Ue I C.length rs G) i j/\e=.returned (.agg #[.slice la 2 2,sv])/\jQ w' la [.string ⟨(jK rs i).1.label.toArray⟩,.string ⟨(jK rs j).1.label.toArray⟩]/\(∃sa sc,sv=.slice sa (I.length+C.length) sc/\jQ w' sa (tN I f I.length++mQ C g C.length))/\dN I C.length (aZ I C.length f g)/\jN (jK rs i).1 (aZ I C.length f g)=true/\jN (jK rs j).1 (aZ I C.length f g)=true)\/((∀i j,¬Ue I C.length rs G i j)/\e=.returned (.agg #[.slice none 0 0,.slice none 0 0])))
theorem JI(a b:Value):(Tryz.prog.info? 132).map (·.size)=some (#[a,b]:Array Value).size:=by
 show _=some 2
 kernel_rfl
theorem Jk{w:World}{p:Nat}{a b c d:Value}(h:w.heap[p]? = some (.cells #[a,b] t (0,0))):((w.setCell ⟨p,0,none⟩ c).setCell ⟨p,1,none⟩ d).heap[p]? = some (.cells #[c,d] t (0,0)):=by
 have q1:=p9 w _ 0 _ _ c h;have q2:=p9 _ _ 1 _ _ d q1;rw[q2];simp
theorem JT{w:World}{p:Nat}{a b c d:Value}{t':TypeId}{a':Option Addr}{xs:List Value}(h:w.heap[p]? = some (.cells #[a,b] t (0,0)))(hc:xM w t' a' xs)(zJZ:t'≠t):xM ((w.setCell ⟨p,0,none⟩ c).setCell ⟨p,1,none⟩ d) t' a' xs:=(hc.set h zJZ).set (p9 w _ 0 _ _ c h) zJZ
theorem CT{w:World}{g:Nat}{x y:Value}(h:w.heap[g]? = some (.cells #[x,y] t (0,0))):xM w t (some ⟨g,0,none⟩) [x,y]:=.inr ⟨g,_,_,rfl,h,fun j hj=>match j,hj with
 | 0,_=>rfl
 | 1,_=>rfl
 | j+2,hj=>absurd hj (by simp)⟩
theorem zBH(o:Nat)(I:List zX)(C:List (Bs × Nat))(rs:List MX)(G:List Bool)(h:XZ w b o I C rs G)(hI:oS I)(hr:∀x∈rs,XC I C.length x.1) :
 Calls Tryz.prog 51 #[.pointer (some ⟨b,o,none⟩)] w fun e w'=>XG I C rs G w w' e:=by
 have hf:=h.few3;have hfC:=h.few2;have hfI:=h.few1;have HMd:=zA (fun w' (hb:Below w.heap.size w w')=>(h.below hb));have HRl:=zA (fun w' (hb:Below w.heap.size w w')=>(h.below hb).rul);have HRv:=zA (fun w' (hb:Below w.heap.size w w') (i j:Nat) (hi:i<rs.length) (hj:j<rs.length)=>VP w' b o I C rs G i j (h.below hb) hi hj)
 have HNw:Hid (∀w' (_:Below w.heap.size w w') (i j:Nat) (_:i<rs.length) (_:j<rs.length),Calls Tryz.prog 66 #[.pointer (some ⟨b,o,none⟩),qB (jK rs i),qB (jK rs j)] w' fun e w2=>∃SR gi gh,e=.returned (.agg SR)/\SR.size=15/\(Tryz.prog.info? 170).map (·.size)=some SR.size/\SR.all (·.oneCell')=true/\Below w'.heap.size w' w2/\∀(b:Nat) (wr:World),Below w2.heap.size w2 wr->w2.heap.size<=b->wr.heap[b]? = some (.cells SR 170 (0,0))->Calls Tryz.prog 67 #[.pointer (some ⟨b,0,none⟩),.int .i64 0] wr fun e w3=>XA I C.length (jK rs i) (jK rs j) w'.heap.size b gi gh wr w3 e):=fun w' hb i j hi hj=>by
  have hm:=h.below hb;obtain⟨a1,c1,p1,q1⟩:=hm.inp;obtain⟨a2,c2,p2,q2⟩:=hm.con;have hx:=hm.rows _ (rB hi);have hy:=hm.rows _ (rB hj);have ox:=hr _ (rB hi);have oy:=hr _ (rB hj);refine(KP w' b o I C.length (jK rs i) (jK rs j) a1 a2 c1 c2 p1 p2 q1 hx hy (by omega) hfC (fun k z hz=>?_) (Co I _ _ hx.few2 hy.few2)).mono ?_
  ·rcases List.mem_append.mp hz with h|h
   ·exact ox.bd k z h
   ·exact oy.bd k z h
  ·intro e w2 hp
   exact x8 w' w2 I C.length (jK rs i) (jK rs j) e hp hI hfC hx hy ox oy
 have HSe:=zA (fun w' (hb:Below w.heap.size w w') (gi gh:Nat) (f:Nat->Int) (g:Nat->Bool) (h1:kG w' gi 3 I.length (fun i=>.int .i64 (f i))) (h2:kG w' gh 4 C.length (fun c=>.bool (g c)))=>K2 w' b o I C rs G gi gh f g (h.below hb) h1 h2)
 have HSl:Hid (∀i,i<rs.length->(∃a c,(jK rs i).2.1=.slice a (jK rs i).1.sum.length c)/\∃a c,(jK rs i).2.2=.slice a (jK rs i).1.guard.length c):=fun i hi=>by
  obtain⟨a,c,e,-⟩:=(h.rows _ (rB hi)).sum;obtain⟨a',c',e',-⟩:=(h.rows _ (rB hi)).guard;exact⟨⟨a,c,e⟩,a',c',e'⟩
 have HCl:Hid (∀i k,Ue I C.length rs G i k ↔ (i<k/\k<rs.length/\KA rs G i k=true/\zBK I C.length (jK rs i).1 (jK rs k).1)):=fun _ _=>Iff.rfl;have HFp:Hid (∀w' e,Below w.heap.size w w'->((∃(i j:Nat) (f:Nat->Int) (g:Nat->Bool) (la:Option Addr) (sv:Value),Cn (Ue I C.length rs G) i j/\e=.returned (.agg #[.slice la 2 2,sv])/\jQ w' la [.string ⟨(jK rs i).1.label.toArray⟩,.string ⟨(jK rs j).1.label.toArray⟩]/\(∃sa sc,sv=.slice sa (I.length+C.length) sc/\jQ w' sa (tN I f I.length++mQ C g C.length))/\dN I C.length (aZ I C.length f g)/\jN (jK rs i).1 (aZ I C.length f g)=true/\jN (jK rs j).1 (aZ I C.length f g)=true)\/((∀i j,¬Ue I C.length rs G i j)/\e=.returned (.agg #[.slice none 0 0,.slice none 0 0])))->XG I C rs G w w' e):=fun w' e h1 h2=>⟨h1,h2⟩;clear h hI hr HMd;generalize Ue I C.length rs G=R at *;generalize XG I C rs G w=Q at *
 go_enter Tryz.func51,Tryz.ntmps51
 obtain⟨ra,rc,d2,-⟩:=HRl.out w (tl _ _);have lb:=zY d2;have m0:w.heap.size≠b:=by omega
 have HB0:Hid (Below w.heap.size w (w.alloc (.cells #[.slice none 0 0,.slice none 0 0] 132))):=fe (tg _) _;have HX0:Hid ((w.alloc (.cells #[.slice none 0 0,.slice none 0 0] 132)).heap[w.heap.size]? = some (.cells #[.slice none 0 0,.slice none 0 0] 132 (0,0))):=zH _ _;have hs0:(w.alloc (.cells #[.slice none 0 0,.slice none 0 0] 132)).heap.size=w.heap.size+1:=by simp
 go_wp2_with fail
 generalize w.alloc (.cells #[.slice none 0 0,.slice none 0 0] 132)=w0 at *;have HG:Hid (∀wr,Below (w.heap.size+1) w0 wr->Below w.heap.size w wr/\wr.heap[w.heap.size]? = some (.cells #[.slice none 0 0,.slice none 0 0] 132 (0,0))):=fun wr hb=>⟨HB0.out.trans (hb.mono (mu _)),(hb.block _ (mt _)).trans HX0.out⟩;clear HB0 HX0
 go_loopw [13] (fun iv wr=>∃(i:Nat),i<=rs.length/\iv=.int .i64 i/\Hid (Below (w.heap.size+1) w0 wr)/\Hid (∀i' k',R i' k'->i<=i')) (fun iv _=>rs.length-(intOf iv).toNat)
 case atStart=>exact⟨0,p7 _,rfl,zA (tl _ _),zA fun _ _ _=>p7 _⟩
 case round =>
  obtain⟨i,hi,rfl,HB,HM⟩:=hrel;have zK6:=HB.out.size;obtain⟨hBw,hX⟩:=HG.out wr HB.out;obtain⟨ra',rc',d2',hcel⟩:=HRl.out wr hBw
  obtain⟨e1,e2⟩:ra'=ra/\rc'=rc:=by
   have:=(hBw.cell (p:=⟨b,o+2,none⟩) lb).trans d2;rw[this]at d2';simp only[cp,dz]at d2';exact⟨d2'.1.symm,d2'.2.2.symm⟩
  subst e1 e2;by_cases zJS:i<rs.length
  ·have ii:(i:Int)<(rs.length:Int):=by omega
   have HM1:Hid (∀i' k',R i' k'->i<i'\/(i=i'/\0<=k')):=fun i' k' h=>by
    have:=HM.out i' k' h;omega
   obtain⟨g,rfl,i0,i1,i2,i3,i4⟩:=eQ hcel.cel zJS;obtain⟨⟨p1,p2,e1⟩,p3,p4,e2⟩:=HSl.out i zJS;rw[e1]at i2;rw[e2]at i3;have lg:=zY i0;have lbr:b<wr.heap.size:=by have:=hBw.size;omega
   have m1:wr.heap.size≠g:=by omega
   have m2:wr.heap.size≠b:=by omega
   have HEq:Hid (qB (jK rs i)=.agg #[.string ⟨(jK rs i).1.label.toArray⟩,.int .i64 (jK rs i).1.conc,.slice p1 (jK rs i).1.sum.length p2,.slice p3 (jK rs i).1.guard.length p4,.int .i64 (jK rs i).1.root]):=by
    show qB (jK rs i)=_;unfold qB;rw[e1,e2]
   have HLi:Hid (∃l,l=(jK rs i).1.label):=⟨_,rfl⟩;clear hX hBw hcel e1 e2;generalize hxl:(jK rs i).1.label=xl at *;generalize (jK rs i).1.conc=xc at *;generalize (jK rs i).1.sum.length=xn at *;generalize (jK rs i).1.guard.length=xm at *;generalize (jK rs i).1.root=xr at *;have HBe:=zA (HB.out.alloc (show w.heap.size+1<=wr.heap.size by omega) (.cells #[.string ⟨xl.toArray⟩,.int .i64 xc,.slice p1 xn p2,.slice p3 xm p4,.int .i64 xr] 162));have HXe:Hid ((wr.alloc (.cells #[.string ⟨xl.toArray⟩,.int .i64 xc,.slice p1 xn p2,.slice p3 xm p4,.int .i64 xr] 162)).heap[wr.heap.size]? = some (.cells #[.string ⟨xl.toArray⟩,.int .i64 xc,.slice p1 xn p2,.slice p3 xm p4,.int .i64 xr] 162 (0,0))):=zH _ _;have hse:(wr.alloc (.cells #[.string ⟨xl.toArray⟩,.int .i64 xc,.slice p1 xn p2,.slice p3 xm p4,.int .i64 xr] 162)).heap.size=wr.heap.size+1:=by simp
   go_wp2_with fail
   generalize wr.alloc (.cells #[.string ⟨xl.toArray⟩,.int .i64 xc,.slice p1 xn p2,.slice p3 xm p4,.int .i64 xr] 162)=wE at *;clear i0 i1 i2 i3 i4 d2' m1 m2;have hsw:w.heap.size+1<=wr.heap.size:=by omega
   generalize wr.heap.size=eb at *;have HGe:Hid (∀wx,Below (eb+1) wE wx->Below (w.heap.size+1) w0 wx/\wx.heap[eb]? = some (.cells #[.string ⟨xl.toArray⟩,.int .i64 xc,.slice p1 xn p2,.slice p3 xm p4,.int .i64 xr] 162 (0,0))):=fun wx hb=>⟨HBe.out.trans (hb.mono (by omega)),(hb.block _ (mt _)).trans HXe.out⟩;clear HBe HXe
   go_loopw [23] (fun kv wy=>∃(k:Nat),k<=rs.length/\kv=.int .i64 k/\Hid (Below (eb+1) wE wy)/\Hid (∀i' k',R i' k'->i<i'\/(i=i'/\k<=k'))) (fun kv _=>rs.length-(intOf kv).toNat)
   case atStart=>exact⟨0,p7 _,rfl,zA (tl _ _),HM1⟩
   case round =>
    obtain⟨k,hk,rfl,HBy,HMk⟩:=hrel;have hszy:=HBy.out.size;by_cases hltk:k<rs.length
    ·have kk:(k:Int)<(rs.length:Int):=by omega
     obtain⟨hB0,hE⟩:=HGe.out wr HBy.out;obtain⟨hBw,hX⟩:=HG.out wr hB0;obtain⟨ra2,rc2,d3,hcel⟩:=HRl.out wr hBw
     obtain⟨e1,e2⟩:ra2=some ⟨g,0,none⟩/\rc2=rc':=by
      have:=(hBw.cell (p:=⟨b,o+2,none⟩) lb).trans d2;rw[this]at d3;simp only[cp,dz]at d3;exact⟨d3.1.symm,d3.2.2.symm⟩
     subst e1 e2;obtain⟨g',e',k0,k1,k2,k3,k4⟩:=eQ hcel.cel hltk;obtain rfl:g=g':=by simpa using e'
     obtain⟨⟨q1,q2,e1⟩,q3,q4,e2⟩:=HSl.out k hltk;rw[e1]at k2;rw[e2]at k3;have lg2:=zY k0;have m1:wr.heap.size≠g:=by omega
     have HKq:Hid (qB (jK rs k)=.agg #[.string ⟨(jK rs k).1.label.toArray⟩,.int .i64 (jK rs k).1.conc,.slice q1 (jK rs k).1.sum.length q2,.slice q3 (jK rs k).1.guard.length q4,.int .i64 (jK rs k).1.root]):=by
      show qB (jK rs k)=_;unfold qB;rw[e1,e2]
     have HCk:=zA (HCl.out i k)
     have HNx:Hid (¬R i k->∀i' k',R i' k'->i<i'\/(i=i'/\k+1<=k')):=fun hn i' k' h=>by
      have h1:=HMk.out i' k' h;rcases h1 with h1|⟨h1,h2⟩
      ·exact .inl h1
      ·by_cases hkk:k=k'
       ·subst h1 hkk;exact absurd h hn
       ·exact .inr ⟨h1,by omega⟩
     have HYs:Hid (R i k->∀w' (la:Option Addr) (sv:Value) (f:Nat->Int) (gg:Nat->Bool),Below w.heap.size w w'->jQ w' la [.string ⟨xl.toArray⟩,.string ⟨(jK rs k).1.label.toArray⟩]->(∃sa sc,sv=.slice sa (I.length+C.length) sc/\jQ w' sa (tN I f I.length++mQ C gg C.length))->dN I C.length (aZ I C.length f gg)->jN (jK rs i).1 (aZ I C.length f gg)=true->jN (jK rs k).1 (aZ I C.length f gg)=true->Q w' (.returned (.agg #[.slice la 2 2,sv]))):=fun h w' la sv f gg hb h1 h2 h3 h4 h5=>HFp.out w' _ hb (.inl ⟨i,k,f,gg,la,sv,⟨h,HMk.out⟩,rfl,by rw[hxl];exact h1,h2,h3,h4,h5⟩);have HRk:=zA (fun w' hb=>HRv.out w' hb i k zJS hltk);have HNk:=zA (fun w' hb=>HNw.out w' hb i k zJS hltk);rw[HEq.out,HKq.out]at HNk;clear hcel e' e1 e2 hE hX hB0 hBw HKq;generalize (jK rs k).1.label=yl at *;generalize (jK rs k).1.conc=yc at *;generalize (jK rs k).1.sum.length=yn at *;generalize (jK rs k).1.guard.length=ym at *;generalize (jK rs k).1.root=yr at *;generalize KA rs G i k=rv at *;have HBl:=zA (HBy.out.alloc (show eb+1<=wr.heap.size by omega) (.cells #[.string ⟨yl.toArray⟩,.int .i64 yc,.slice q1 yn q2,.slice q3 ym q4,.int .i64 yr] 162));have HXl:Hid ((wr.alloc (.cells #[.string ⟨yl.toArray⟩,.int .i64 yc,.slice q1 yn q2,.slice q3 ym q4,.int .i64 yr] 162)).heap[wr.heap.size]? = some (.cells #[.string ⟨yl.toArray⟩,.int .i64 yc,.slice q1 yn q2,.slice q3 ym q4,.int .i64 yr] 162 (0,0))):=zH _ _;have hsl:(wr.alloc (.cells #[.string ⟨yl.toArray⟩,.int .i64 yc,.slice q1 yn q2,.slice q3 ym q4,.int .i64 yr] 162)).heap.size=wr.heap.size+1:=by simp
     go_upto_region 7 with fail
     generalize wr.alloc (.cells #[.string ⟨yl.toArray⟩,.int .i64 yc,.slice q1 yn q2,.slice q3 ym q4,.int .i64 yr] 162)=wL at *;clear k0 k1 k2 k3 k4 d3 m1;have hse2:eb+1<=wr.heap.size:=by omega
     generalize wr.heap.size=lb2 at *
     have HGl:Hid (∀wx,Below (lb2+1) wL wx->Below (eb+1) wE wx/\Below w.heap.size w wx/\wx.heap[w.heap.size]? = some (.cells #[.slice none 0 0,.slice none 0 0] 132 (0,0))/\wx.heap[eb]? = some (.cells #[.string ⟨xl.toArray⟩,.int .i64 xc,.slice p1 xn p2,.slice p3 xm p4,.int .i64 xr] 162 (0,0))/\wx.heap[lb2]? = some (.cells #[.string ⟨yl.toArray⟩,.int .i64 yc,.slice q1 yn q2,.slice q3 ym q4,.int .i64 yr] 162 (0,0))):=fun wx hb=>by
      have h1:=HBl.out.trans (hb.mono (by omega));obtain⟨h2,h3⟩:=HGe.out wx h1;obtain⟨h4,h5⟩:=HG.out wx h2;exact⟨h1,h4,h5,h3,(hb.block _ (mt _)).trans HXl.out⟩
     clear HBl HXl;have HB7:=zA (HGl.out wL (tl _ _)).1;by_cases hik:i<k
     ·have gg:¬(k:Int)<=(i:Int):=by omega
      have HRw:=zA (HRk.out wL (HGl.out wL (tl _ _)).2.1);go_wp2_with fail
      refine HRw.out.mono ?_;rintro e w2 ⟨rfl,hb2⟩;have HB2:Hid (Below (lb2+1) wL w2):=by rw[hsl]at hb2;exact hb2
      clear hb2 HRw;cases rv
      ·have HNn:=zA (HNx.out (fun h=>by have:=(HCk.out.1 h).2.2.1;cases this))
       have HBn:=zA (HGl.out w2 HB2.out).1;go_wp2_with fail
       go_roundw
       case rel=>exact⟨k+1,by omega,by go_num,HBn,HNn⟩
       case measure=>simp[intOf];omega
      ·obtain⟨-,hBw2,-,hE2,hL2⟩:=HGl.out w2 HB2.out
       have x0:w2.cell? ⟨eb,0,none⟩=some (.string ⟨xl.toArray⟩):=(zC hE2 0).trans rfl;have x1:w2.cell? ⟨eb,1,none⟩=some (.int .i64 xc):=(zC hE2 1).trans rfl;have x2:w2.cell? ⟨eb,2,none⟩=some (.slice p1 xn p2):=(zC hE2 2).trans rfl;have x3:w2.cell? ⟨eb,3,none⟩=some (.slice p3 xm p4):=(zC hE2 3).trans rfl;have x4:w2.cell? ⟨eb,4,none⟩=some (.int .i64 xr):=(zC hE2 4).trans rfl;have y0:w2.cell? ⟨lb2,0,none⟩=some (.string ⟨yl.toArray⟩):=(zC hL2 0).trans rfl;have y1:w2.cell? ⟨lb2,1,none⟩=some (.int .i64 yc):=(zC hL2 1).trans rfl;have y2:w2.cell? ⟨lb2,2,none⟩=some (.slice q1 yn q2):=(zC hL2 2).trans rfl;have y3:w2.cell? ⟨lb2,3,none⟩=some (.slice q3 ym q4):=(zC hL2 3).trans rfl;have y4:w2.cell? ⟨lb2,4,none⟩=some (.int .i64 yr):=(zC hL2 4).trans rfl;have HNz:=zA (HNk.out w2 hBw2);have hs2:lb2+1<=w2.heap.size:=by have:=HB2.out.size;omega
       clear hBw2 hE2 hL2 HNk HRk HNw HRv;go_wp2_with fail
       refine HNz.out.mono ?_;rintro e w3 ⟨SR,gi,gh,rfl,zK2,hinf,hone,hb3,hsk⟩;have HIf:=zA hinf;have HSz:=zA zK2;have HAl:=zA hone;have HB3:=zA hb3;have HSk:=zA hsk;have hs3:=hb3.size;clear hinf zK2 hone hb3 hsk HNz x0 x1 x2 x3 x4 y0 y1 y2 y3 y4;have HZr:Hid ((w3.alloc (.cells #[.string ⟨#[]⟩,.int .i64 0,.slice none 0 0,.slice none 0 0,.int .i64 0,.string ⟨#[]⟩,.int .i64 0,.slice none 0 0,.slice none 0 0,.int .i64 0,.slice none 0 0,.slice none 0 0,.slice none 0 0,.slice none 0 0,.slice none 0 0] 170)).heap[w3.heap.size]? = some (.cells Cp 170 (0,0))):=zH _ _;have HBs:Hid (Below w3.heap.size w3 ((w3.alloc (.cells Cp 170)).setRow w3.heap.size SR)):=yW (fe (tg _) _) (tg _) _;have HXs:Hid (((w3.alloc (.cells Cp 170)).setRow w3.heap.size SR).heap[w3.heap.size]? = some (.cells SR 170 (0,0))):=bf _ _ Cp _ _ _ (zH w3 _);unfold Cp at HBs HXs
       go_wp2_with (refine wpList_store_row ?zJW 170 (.tmp 7) (.tmp 41) ?ho w3.heap.size SR ?hx ?hy 170 Cp HZr.out HIf.out ?zJY HAl.out ?_
                    case ho=>rfl
                    case zJW=>rfl
                    case hx=>rfl
                    case hy=>rfl
                    case zJY=>rw[HSz.out];rfl)
       generalize (w3.alloc (.cells #[.string ⟨#[]⟩,.int .i64 0,.slice none 0 0,.slice none 0 0,.int .i64 0,.string ⟨#[]⟩,.int .i64 0,.slice none 0 0,.slice none 0 0,.int .i64 0,.slice none 0 0,.slice none 0 0,.slice none 0 0,.slice none 0 0,.slice none 0 0] 170)).setRow w3.heap.size SR=wS at *;refine(HSk.out w3.heap.size wS HBs.out (tg _) HXs.out).mono ?_;rintro e w4 ⟨r,rfl,hb4,hno,hyes⟩;have HB4:Hid (Below (lb2+1) wL w4):=(HB2.out.trans ((HB3.out.trans (HBs.out.mono hs3)).mono hs2)).trans (hb4.mono hs2);clear HIf HSz HAl HSk HZr HBs HXs hb4;cases r
       ·have HNn:=zA (HNx.out (fun h=>hno rfl (HCk.out.1 h).2.2.2))
        have HBn:=zA (HGl.out w4 HB4.out).1;clear hno hyes;go_wp2_with fail
        go_roundw
        case rel=>exact⟨k+1,by omega,by go_num,HBn,HNn⟩
        case measure=>simp[intOf];omega
       ·obtain⟨f,gg,⟨s12,s13,s14⟩,hrI,hrH,hroom,ha1,ha2⟩:=hyes rfl
        have hRik:R i k:=HCk.out.2 ⟨hik,hltk,by first|trivial|rfl,_,hroom,ha1,ha2⟩;obtain⟨-,hBw4,hX4,hE4,hL4⟩:=HGl.out w4 HB4.out;have hsw4:=hBw4.size;have HPo:=zA (fun w' la sv hb h1 h2=>HYs.out hRik w' la sv f gg hb h1 h2 hroom ha1 ha2)
        have HSw:Hid (∀w',Below w4.heap.size w4 w'->Calls Tryz.prog 68 #[.pointer (some ⟨b,o,none⟩),.agg #[.slice (some ⟨gi,0,none⟩) I.length I.length,.slice (some ⟨gh,0,none⟩) C.length C.length,.slice none 0 0]] w' fun e w5=>∃sa sc,e=.returned (.slice sa (I.length+C.length) sc)/\xM w5 95 sa (tN I f I.length++mQ C gg C.length)/\Below w'.heap.size w' w5):=fun w' hb=>by
         refine(HSe.out w' (hBw4.trans (hb.mono hsw4)) gi gh f gg (hrI.below hb) (hrH.below hb)).mono ?_;rintro e w5 ⟨v,rfl,h1,h2⟩;obtain⟨sa,sc,rfl,h3⟩:=uM h1;exact⟨sa,sc,rfl,h3,h2⟩
        have lsb:=zY s12;have lsb2:lb2<w3.heap.size:=by omega
        have lre:=zQ hX4;have lee:=zQ hE4;have lle:=zQ hL4
        have HAf:Hid (∀w5,Below w4.heap.size w4 w5->(w5.cell? ⟨eb,0,none⟩=some (.string ⟨xl.toArray⟩)/\w5.cell? ⟨lb2,0,none⟩=some (.string ⟨yl.toArray⟩)/\w5.cell? ⟨w3.heap.size,12,none⟩=some (.slice (some ⟨gi,0,none⟩) I.length I.length)/\w5.cell? ⟨w3.heap.size,13,none⟩=some (.slice (some ⟨gh,0,none⟩) C.length C.length)/\w5.cell? ⟨w3.heap.size,14,none⟩=some (.slice none 0 0))/\(w5.cell? ⟨w.heap.size,0,none⟩=some (.slice none 0 0)/\w5.cell? ⟨w.heap.size,1,none⟩=some (.slice none 0 0)/\w5.frozen? ⟨w.heap.size,0,none⟩=false/\w5.frozen? ⟨w.heap.size,1,none⟩=false)/\Below w.heap.size w w5/\w5.heap[w.heap.size]? = some (.cells #[.slice none 0 0,.slice none 0 0] 132 (0,0))/\w.heap.size<w5.heap.size):=fun w5 hb=>by
         have hR5:=(hb.block _ lre).trans hX4;have hE5:=(hb.block _ lee).trans hE4;have hL5:=(hb.block _ lle).trans hL4;exact⟨⟨(zC hE5 0).trans rfl,(zC hL5 0).trans rfl,(hb.cell (p:=⟨w3.heap.size,12,none⟩) lsb).trans s12,(hb.cell (p:=⟨w3.heap.size,13,none⟩) lsb).trans s13,(hb.cell (p:=⟨w3.heap.size,14,none⟩) lsb).trans s14⟩,⟨(zC hR5 0).trans rfl,(zC hR5 1).trans rfl,by simp[World.frozen?,hR5],by simp[World.frozen?,hR5]⟩,hBw4.trans (hb.mono hsw4),hR5,zQ hR5⟩
        obtain⟨⟨t0,t1,t2,t3,t4⟩,⟨t5,t6,t7,t8⟩,-,-,-⟩:=HAf.out w4 (tl _ _);clear hroom ha1 ha2 hrI hrH s12 s13 s14 hX4 hE4 hL4 hBw4 hno hyes HYs HCk HSe;generalize tN I f I.length++mQ C gg C.length=SV at *;generalize w3.heap.size=sb at *;have n1:w4.heap.size≠eb:=by omega
        have n2:w4.heap.size≠lb2:=by omega
        have n3:w4.heap.size≠sb:=by omega
        have n4:w4.heap.size≠w.heap.size:=by omega
        have a1:w.heap.size≠eb:=by omega
        have a2:w.heap.size≠lb2:=by omega
        have a3:w.heap.size≠sb:=by omega
        have a4:eb≠w.heap.size:=by omega
        have a5:lb2≠w.heap.size:=by omega
        have a6:sb≠w.heap.size:=by omega
        go_upto_region 10 with fail
        go_region_held3 (fun w'=>w'.cell? ⟨eb,0,none⟩=some (.string ⟨xl.toArray⟩)/\w'.cell? ⟨lb2,0,none⟩=some (.string ⟨yl.toArray⟩)/\w'.cell? ⟨sb,12,none⟩=some (.slice (some ⟨gi,0,none⟩) I.length I.length)/\w'.cell? ⟨sb,13,none⟩=some (.slice (some ⟨gh,0,none⟩) C.length C.length)/\w'.cell? ⟨sb,14,none⟩=some (.slice none 0 0)) (go_keep) (
         (go_at_call 68;first
          | (refine(HSw.out _ (pu (tl _ _))).mono ?_;rintro e w5 ⟨sa,sc,rfl,hcv,hb5⟩;obtain⟨⟨r0,r1,r2,r3,r4⟩,⟨z0,z1,z2,z3⟩,hB5,hR5,hl5⟩:=HAf.out w5 ((pu (tl _ _)).trans hb5);have hs45:w4.heap.size<=w5.heap.size:=((pu (tl w4.heap.size w4)).trans hb5).size;have n5:w5.heap.size≠eb:=(by omega);have n6:w5.heap.size≠w.heap.size:=(by omega);have n7:w5.heap.size≠lb2:=(by omega);have n8:w5.heap.size≠sb:=(by omega))
          | (refine(HSw.out _ ((tl w4.heap.size w4).drew.alloc (tg _) _)).mono ?_;rintro e w5 ⟨sa,sc,rfl,hcv,hb5⟩;obtain⟨⟨r0,r1,r2,r3,r4⟩,⟨z0,z1,z2,z3⟩,hB5,hR5,hl5⟩:=HAf.out w5 (((tl w4.heap.size w4).drew.alloc (tg _) _).trans (hb5.mono (by simp))))))
        ·have hlab:w5.heap[w4.heap.size]? = some (.cells #[.string ⟨xl.toArray⟩,.string ⟨yl.toArray⟩] 9 (0,0)):=(hb5.block _ (yE _ _)).trans (zH _ _)
         have HQ:=zA (HPo.out ((w5.setCell ⟨w.heap.size,0,none⟩ (.slice (some ⟨w4.heap.size,0,none⟩) 2 2)).setCell ⟨w.heap.size,1,none⟩ (.slice sa (I.length+C.length) sc)) (some ⟨w4.heap.size,0,none⟩) (.slice sa (I.length+C.length) sc) ((hB5.setCell (by simp) _).setCell (by simp) _) (JT hR5 (CT hlab) (by decide)).cel ⟨sa,sc,rfl,(JT hR5 hcv (by decide)).cel⟩);have HFr:=zA (Jk (c:=.slice (some ⟨w4.heap.size,0,none⟩) 2 2) (d:=.slice sa (I.length+C.length) sc) hR5);go_wp2_with fail
         refine pm (v:=.agg #[.slice (some ⟨w4.heap.size,0,none⟩) 2 2,.slice sa (I.length+C.length) sc]) (results_cell_row Tryz.results51 _ _ w.heap.size 132 #[.slice (some ⟨w4.heap.size,0,none⟩) 2 2,.slice sa (I.length+C.length) sc] (0,0) _ rfl HFr.out Tryz.underlying132 rfl (JI _ _)) rfl HQ.out
        ·have hlab:(((w5.setCell ⟨w.heap.size,0,none⟩ (.slice (some ⟨w5.heap.size,0,none⟩) 2 2)).setCell ⟨w.heap.size,1,none⟩ (.slice sa (I.length+C.length) sc)).alloc (.cells #[.string ⟨xl.toArray⟩,.string ⟨yl.toArray⟩] 9)).heap[w5.heap.size]? = some (.cells #[.string ⟨xl.toArray⟩,.string ⟨yl.toArray⟩] 9 (0,0)):=vT _ _ _ (by simp)
         have hbe:Below w.heap.size w ((w5.setCell ⟨w.heap.size,0,none⟩ (.slice (some ⟨w5.heap.size,0,none⟩) 2 2)).setCell ⟨w.heap.size,1,none⟩ (.slice sa (I.length+C.length) sc)):=(hB5.setCell (by simp) _).setCell (by simp) _;have HQ:=zA (HPo.out (((w5.setCell ⟨w.heap.size,0,none⟩ (.slice (some ⟨w5.heap.size,0,none⟩) 2 2)).setCell ⟨w.heap.size,1,none⟩ (.slice sa (I.length+C.length) sc)).alloc (.cells #[.string ⟨xl.toArray⟩,.string ⟨yl.toArray⟩] 9)) (some ⟨w5.heap.size,0,none⟩) (.slice sa (I.length+C.length) sc) (hbe.alloc hbe.size _) (CT hlab).cel ⟨sa,sc,rfl,((JT hR5 hcv (by decide)).below (fe (tg _) _)).cel⟩);have HFr:Hid ((((w5.setCell ⟨w.heap.size,0,none⟩ (.slice (some ⟨w5.heap.size,0,none⟩) 2 2)).setCell ⟨w.heap.size,1,none⟩ (.slice sa (I.length+C.length) sc)).alloc (.cells #[.string ⟨xl.toArray⟩,.string ⟨yl.toArray⟩] 9)).heap[w.heap.size]? = some (.cells #[.slice (some ⟨w5.heap.size,0,none⟩) 2 2,.slice sa (I.length+C.length) sc] 132 (0,0))):=yD (Jk hR5);clear hlab hbe;go_wp2_with fail
         refine pm (v:=.agg #[.slice (some ⟨w5.heap.size,0,none⟩) 2 2,.slice sa (I.length+C.length) sc]) (results_cell_row Tryz.results51 _ _ w.heap.size 132 #[.slice (some ⟨w5.heap.size,0,none⟩) 2 2,.slice sa (I.length+C.length) sc] (0,0) _ rfl HFr.out Tryz.underlying132 rfl (JI _ _)) rfl HQ.out
     ·have gg:(k:Int)<=(i:Int):=by omega
      have HNn:=zA (HNx.out (fun h=>hik (HCk.out.1 h).1));go_wp2_with fail
      go_roundw
      case rel=>exact⟨k+1,by omega,by go_num,HB7,HNn⟩
      case measure=>simp[intOf];omega
    ·obtain rfl:k=rs.length:=by omega
     have kk:¬(rs.length:Int)<(rs.length:Int):=by omega
     have HNo:Hid (∀i' k',R i' k'->i+1<=i'):=fun i' k' h=>by
      have h1:=HMk.out i' k' h;have h2:=((HCl.out i' k').1 h).2.1;omega
     have HBn:=zA (HGe.out _ HBy.out).1;go_wp2_with fail
     go_roundw
     case rel=>exact⟨i+1,by omega,by go_num,HBn,HNo⟩
     case measure=>simp[intOf];omega
  ·obtain rfl:i=rs.length:=by omega
   have ii:¬(rs.length:Int)<(rs.length:Int):=by omega
   have HQ:=zA (HFp.out ((wr.setCell ⟨w.heap.size,0,none⟩ (.slice none 0 0)).setCell ⟨w.heap.size,1,none⟩ (.slice none 0 0)) (.returned (.agg #[.slice none 0 0,.slice none 0 0])) ((hBw.setCell (by simp) _).setCell (by simp) _) (.inr ⟨fun i' k' h=>by
    have h1:=HM.out i' k' h;have h2:=(HCl.out i' k').1 h;omega,rfl⟩))
   have HFr:=zA (Jk (c:=.slice none 0 0) (d:=.slice none 0 0) hX);have z0:wr.cell? ⟨w.heap.size,0,none⟩=some (.slice none 0 0):=(zC hX 0).trans rfl;have z1:wr.cell? ⟨w.heap.size,1,none⟩=some (.slice none 0 0):=(zC hX 1).trans rfl;have y0:wr.frozen? ⟨w.heap.size,0,none⟩=false:=by simp[World.frozen?,hX]
   have y1:wr.frozen? ⟨w.heap.size,1,none⟩=false:=by simp[World.frozen?,hX]
   go_wp2_with fail
   refine pm (v:=.agg #[.slice none 0 0,.slice none 0 0]) (results_cell_row Tryz.results51 _ _ w.heap.size 132 #[.slice none 0 0,.slice none 0 0] (0,0) _ rfl HFr.out Tryz.underlying132 rfl (JI _ _)) rfl HQ.out
theorem Yc{iv cv rv:Value}(k:Int){j:Nat}(hj:j<3+G.length):(cX iv cv rv G k)[j]? = (cL iv cv rv G)[j]? := by
 unfold cX;rw[fb (by rw[mJ];exact hj)]
theorem XZ.made{w:World}{b:Nat}{iv cv rv:Value}{I:List zX}{C:List (Bs × Nat)}{rs:List MX}(h:w.heap[b]? = some (Ui iv cv rv G 0))(hG:G.length=64)(hc:bL w iv cv rv I C rs)(hf:I.length<=100):XZ w b 0 I C rs G:=by
 unfold Ui at h;obtain⟨g0,g1,g2⟩:=J7 iv cv rv G;obtain⟨a1,c1,e1,k1⟩:=hc.inp;obtain⟨a2,c2,e2,k2⟩:=hc.con;obtain⟨a3,c3,e3,k3⟩:=hc.rul;refine⟨⟨a1,c1,?_,k1⟩,⟨a2,c2,?_,k2⟩,⟨a3,c3,?_,k3⟩,hc.rows,fun k hk=>?_,hf,hc.few2,hc.few3⟩
 ·rw[<-e1];exact((zC h 0).trans (Yc 0 (by omega))).trans g0
 ·rw[<-e2];exact((zC h 1).trans (Yc 0 (by omega))).trans g1
 ·rw[<-e3];exact((zC h 2).trans (Yc 0 (by omega))).trans g2
 ·rw[db];exact((zC h (3+k)).trans (Yc 0 (by omega))).trans (YQ iv cv rv G k (by omega))
def Xk(F:List zE):List Bool:=zS (kE (uY F) F gZ)
theorem Yh(F:List zE):(Xk F).length=64:=by unfold Xk zS;rw[fO,dX];exact xO
structure D0(F:List zE):Prop where
 few:(yI F).length<=100
 inp:oS (yI F)
 rul:∀x∈uT ((yI F).map zX.name) ((vF F).map Prod.fst) F,XC (yI F) (vF F).length x
def X8(F:List zE)(w w':World)(e:Ending):Prop:=∃rs:List MX,rs.map Prod.fst=uT ((yI F).map zX.name) ((vF F).map Prod.fst) F/\Below w.heap.size w w'/\((∃b:Nat,e=.returned (.tuple #[.pointer (some ⟨b,0,none⟩),.int .i64 0])/\iW w' b F rs/\∀i j,¬Ue (yI F) (vF F).length rs (Xk F) i j)\/(e=.returned (.tuple #[.pointer none,.int .i64 8])/\∃i j,Ue (yI F) (vF F).length rs (Xk F) i j))
theorem XX(l:Bs)(w:World)(F:List zE)(hO:D0 F)(hR:Calls Tryz.prog 50 #[.string ⟨l.toArray⟩] w fun e w'=>cK F w w' e) :
 Calls Tryz.prog 27 #[.string ⟨l.toArray⟩,.bool true] w fun e w'=>X8 F w w' e:=by
 have HR:=zA hR;clear hR;have HGL:=zA (Yh F);have HRN:Hid (∀w' e,cK F w w' e->∃iv cv rv rs,e=.returned (.agg (cX iv cv rv (Xk F) 0))/\rs.map Prod.fst=uT ((yI F).map zX.name) ((vF F).map Prod.fst) F/\bL w' iv cv rv (yI F) (vF F) rs/\Below w.heap.size w w'):=fun w' e h=>h;have HSI:Hid (∀w' e (rs:List MX),rs.map Prod.fst=uT ((yI F).map zX.name) ((vF F).map Prod.fst) F->Below w.heap.size w w'->((∃b:Nat,e=.returned (.tuple #[.pointer (some ⟨b,0,none⟩),.int .i64 0])/\iW w' b F rs/\∀i j,¬Ue (yI F) (vF F).length rs (Xk F) i j)\/(e=.returned (.tuple #[.pointer none,.int .i64 8])/\∃i j,Ue (yI F) (vF F).length rs (Xk F) i j))->X8 F w w' e):=fun w' e rs h1 h2 h3=>⟨rs,h1,h2,h3⟩;have HBN:Hid (∀w' b iv cv rv rs,w'.heap[b]? = some (.cells (zAN iv cv rv (Xk F)) 136 (0,0))->rs.map Prod.fst=uT ((yI F).map zX.name) ((vF F).map Prod.fst) F->bL w' iv cv rv (yI F) (vF F) rs->iW w' b F rs):=fun w' b iv cv rv rs h1 h2 h3=>⟨⟨iv,cv,rv,h1,h3⟩,h2⟩
 have HFd:Hid (∀w' b rs iv cv rv,rs.map Prod.fst=uT ((yI F).map zX.name) ((vF F).map Prod.fst) F->w'.heap[b]? = some (Ui iv cv rv (Xk F) 0)->bL w' iv cv rv (yI F) (vF F) rs->Calls Tryz.prog 51 #[.pointer (some ⟨b,0,none⟩)] w' fun e w2=>Below w'.heap.size w' w2/\((∃la sa sn sc,e=.returned (.agg #[.slice la 2 2,.slice sa sn sc])/\∃i j,Ue (yI F) (vF F).length rs (Xk F) i j)\/(e=.returned (.agg #[.slice none 0 0,.slice none 0 0])/\∀i j,¬Ue (yI F) (vF F).length rs (Xk F) i j))):=fun w' b rs iv cv rv h1 h2 h3=>by
  refine(zBH w' b 0 (yI F) (vF F) rs (Xk F) (XZ.made h2 (Yh F) h3 hO.few) hO.inp (fun x hx=>hO.rul x.1 ?_)).mono ?_
  ·rw[<-h1];exact List.mem_map_of_mem hx
  ·rintro e w2 ⟨hb,⟨i,j,f,g,la,sv,hfp,rfl,-,⟨sa,sc,rfl,-⟩,-,-,-⟩|⟨hn,rfl⟩⟩
   ·exact⟨hb,.inl ⟨la,sa,_,sc,rfl,i,j,hfp.1⟩⟩
   ·exact⟨hb,.inr ⟨rfl,hn⟩⟩
 clear hO;generalize Xk F=G at *;generalize X8 F w=Q at *
 go_enter Tryz.func27,Tryz.ntmps27
 go_wp2_with fail
 refine HR.out.mono ?_;rintro e w1 hri;obtain⟨iv,cv,rv,rs,rfl,hrs,hmc,hb⟩:=HRN.out _ _ hri;obtain⟨o1,o2,o3⟩:=hmc.one;have HB:=zA hb;have HMc:=zA hmc;have hs:=hb.size;have HSJ:=zA (fun w' e=>HSI.out w' e rs hrs);have HFe:=zA (fun w' b=>HFd.out w' b rs iv cv rv hrs);have HBe:=zA (fun w' b h1 h2=>HBN.out w' b iv cv rv rs h1 hrs h2);clear hb HR hri hmc hrs HRN HSI HFd HBN;have zKA:Hid ((w1.alloc (.cells Tryz.zeroCells129 129)).heap[w1.heap.size]? = some (.cells Tryz.zeroCells129 129 (0,0))):=zH _ _;have HM:Hid (((w1.alloc (.cells Tryz.zeroCells129 129)).setRow w1.heap.size (cX iv cv rv G 0)).heap[w1.heap.size]? = some (Ui iv cv rv G 0)):=bf _ _ _ _ _ _ zKA.out;have c67:((w1.alloc (.cells Tryz.zeroCells129 129)).setRow w1.heap.size (cX iv cv rv G 0)).cell? ⟨w1.heap.size,67,none⟩=some (.int .i64 0):=by have h8:=HM.out;unfold Ui at h8;exact(zC h8 67).trans (CH HGL.out 0)
 have HBm:Hid (Below w1.heap.size w1 ((w1.alloc (.cells Tryz.zeroCells129 129)).setRow w1.heap.size (cX iv cv rv G 0))):=yW (fe (tg _) _) (tg _) _
 go_wp2_with (refine wpList_store_row ?zJW 129 (.tmp 6) (.tmp 9) ?ho w1.heap.size (cX iv cv rv G 0) ?hx ?hy 129 Tryz.zeroCells129 zKA.out (wH HGL.out _ _ _ _) ?zJY (Yb o1 o2 o3 _ _) ?_
              case ho=>rfl
              case zJW=>rfl
              case hx=>rfl
              case hy=>rfl
              case zJY=>rw[J4,mI,mI,xO,HGL.out])
 have HMm:=zA (HMc.out.below HBm.out);have zKE:Hid (Below w.heap.size w ((w1.alloc (.cells Tryz.zeroCells129 129)).setRow w1.heap.size (cX iv cv rv G 0))):=HB.out.trans (HBm.out.mono hs);clear zKA c67 HBm HMc;generalize (w1.alloc (.cells Tryz.zeroCells129 129)).setRow w1.heap.size (cX iv cv rv G 0)=wM at *;have lm:=zQ HM.out;refine(HFe.out wM w1.heap.size HM.out HMm.out).mono ?_;rintro e w2 ⟨hb2,⟨la,sa,sn,sc,rfl,hex⟩|⟨rfl,hno⟩⟩
 ·have HB2:Hid (Below w.heap.size w w2):=zKE.out.trans (hb2.mono zKE.out.size)
  have HEx:=zA hex;have hs2:=HB2.out.size;clear hex hb2 HFe HMm HM;have HQ:=zA (HSJ.out (w2.alloc (.cells #[.slice la 2 2,.slice sa sn sc] 132)) _ (HB2.out.alloc hs2 _) (.inr ⟨rfl,HEx.out⟩));go_wp2_with fail
  exact HQ.out
 ·have HB2:Hid (Below w.heap.size w w2):=zKE.out.trans (hb2.mono zKE.out.size)
  have HNo:=zA hno;have hs2:=HB2.out.size;have HM2:Hid (w2.heap[w1.heap.size]? = some (Ui iv cv rv G 0)):=(hb2.block _ lm).trans HM.out;have lm2:=zQ HM2.out
  have HRg:Hid ((w2.alloc (.cells #[.slice none 0 0,.slice none 0 0] 132)).rangeAt w1.heap.size 0 (cL iv cv rv G).toList):=fun j v hv=>by
   have h8:(w2.alloc (.cells #[.slice none 0 0,.slice none 0 0] 132)).heap[w1.heap.size]? = some (Ui iv cv rv G 0):=yD HM2.out;unfold Ui cX at h8;have hj:j<(cL iv cv rv G).size:=by have:=(List.getElem?_eq_some_iff.1 hv).1;simpa using this
   rw[db];refine(zC h8 j).trans ?_;rw[fb hj];rw[<-hv,Array.getElem?_toList]
  have HMz:=zA (fun (o1 o2:Obj)=>((HMm.out.below hb2).below (fe (tg _) o1)).below (fe (tg _) o2));clear hno hb2 HFe HMm HM HM2
  go_wp2_with (first
   | (refine wpList_load_mid ?zJW 127 (.tmp 22) ?ho w1.heap.size 0 ?hx (cL iv cv rv G).toList _ HRg.out Tryz.underlying127 rfl ?hi ?_
      case ho=>rfl
      case zJW=>rfl
      case hx=>rfl
      case hi=>rw[Array.length_toList];exact eT HGL.out _ _ _)
   | (refine wpList_buildTo rfl 136 #[(0,.const (.bool true)),(1,.tmp 23)] rfl (some 24) rfl (zAN iv cv rv G) (by rw[Array.toList_map];exact zAM iv cv rv G HGL.out) ?_))
  exact HSJ.out _ _ ((HB2.out.alloc hs2 _).alloc (by simp;omega) _) (.inl ⟨w2.heap.size+1,rfl,HBe.out _ _ (by rw[show w2.heap.size+1=(w2.alloc (.cells #[.slice none 0 0,.slice none 0 0] 132)).heap.size by simp];exact zH _ _) (HMz.out _ _),HNo.out⟩)
theorem eU{F:List zE}(h:tH F):(vF F).map Prod.fst=yY F:=by
 rw[uv F h.heads h.nam];unfold zA1;rw[List.map_map];refine List.ext_getElem (by simp) fun i h1 h2=>?_;simp only[List.getElem_map,List.getElem_range,Function.comp];rw[ma,pw h2];rfl
theorem eV{F:List zE}(h:tH F):(vF F).length=(yY F).length:=by rw[<-eU h,me]
theorem Vt{i j:Nat}(hi:i<8)(hj:j<8):wR G (i:Int) (j:Int)=gA G i j:=by
 unfold wR;rw[ty (show (0:Int)<=(i:Int) by omega),ty (show (i:Int)<8 by omega),ty (show (0:Int)<=(j:Int) by omega),ty (show (j:Int)<8 by omega)];simp
theorem KQ(h:tH ls){rs:List MX}(hr:rs.map Prod.fst=uT ((yI ls).map zX.name) ((vF ls).map Prod.fst) ls):rs.length=(zBR ls).length/\∀i,i<(zBR ls).length->(jK rs i).1=qM (qW ls) (yY ls) ((zBR ls).getD i zD6):=by
 rw[eU h,Qq]at hr;have hl:rs.length=(zBR ls).length:=by have:=congrArg List.length hr;simpa using this
 refine⟨hl,fun i hi=>?_⟩;have h1:i<rs.length:=by omega
 have e1:(rs.map Prod.fst).getD i (qM [] [] zD6)=(jK rs i).1:=by simp[jK,List.getD,h1]
 rw[<-e1,hr];exact Xm _ _ _ _ _ hi
theorem zH8(h:tH ls)(hg:∀x∈ls,oT x):D0 ls:=by
 refine⟨by have:=Vl h;omega,zE5 h hg,fun r hr=>?_⟩;rw[eU h,Qq]at hr;obtain⟨x,hx,rfl⟩:=pd.1 hr;obtain⟨h1,h2⟩:=mw.1 hx;rw[eV h];exact zGV h h1 (cg h2) (hg x h1)
def Yn(F:List zE)(w w':World)(e:Ending):Prop:=∃rs:List MX,rs.map Prod.fst=uT ((yI F).map zX.name) ((vF F).map Prod.fst) F/\Below w.heap.size w w'/\((e=.returned (.tuple #[.slice none 0 0,.slice none 0 0,.int .i64 9])/\∀i j,¬Ue (yI F) (vF F).length rs (Xk F) i j)\/(∃(i j:Nat) (f:Nat->Int) (g:Nat->Bool) (la sa:Option Addr) (sc:Nat),e=.returned (.tuple #[.slice la 2 2,.slice sa ((yI F).length+(vF F).length) sc,.int .i64 0])/\Cn (Ue (yI F) (vF F).length rs (Xk F)) i j/\jQ w' la [.string ⟨(jK rs i).1.label.toArray⟩,.string ⟨(jK rs j).1.label.toArray⟩]/\jQ w' sa (tN (yI F) f (yI F).length++mQ (vF F) g (vF F).length)/\dN (yI F) (vF F).length (aZ (yI F) (vF F).length f g)/\jN (jK rs i).1 (aZ (yI F) (vF F).length f g)=true/\jN (jK rs j).1 (aZ (yI F) (vF F).length f g)=true))
theorem JZ(l:Bs)(w:World)(F:List zE)(hO:D0 F)(hR:Calls Tryz.prog 50 #[.string ⟨l.toArray⟩] w fun e w'=>cK F w w' e) :
 Calls Tryz.prog 29 #[.string ⟨l.toArray⟩] w fun e w'=>Yn F w w' e:=by
 have HR:=zA hR;clear hR;have HGL:=zA (Yh F);have HRN:Hid (∀w' e,cK F w w' e->∃iv cv rv rs,e=.returned (.agg (cX iv cv rv (Xk F) 0))/\rs.map Prod.fst=uT ((yI F).map zX.name) ((vF F).map Prod.fst) F/\bL w' iv cv rv (yI F) (vF F) rs/\Below w.heap.size w w'):=fun w' e h=>h
 have HFd:Hid (∀w' b rs iv cv rv,rs.map Prod.fst=uT ((yI F).map zX.name) ((vF F).map Prod.fst) F->w'.heap[b]? = some (Ui iv cv rv (Xk F) 0)->bL w' iv cv rv (yI F) (vF F) rs->Below w.heap.size w w'->Calls Tryz.prog 51 #[.pointer (some ⟨b,0,none⟩)] w' fun e w2=>((∃la sa sn sc,e=.returned (.agg #[.slice la 2 2,.slice sa sn sc])/\∀w3,Below w2.heap.size w2 w3->Yn F w w3 (.returned (.tuple #[.slice la 2 2,.slice sa sn sc,.int .i64 0])))\/(e=.returned (.agg #[.slice none 0 0,.slice none 0 0])/\∀w3,Below w2.heap.size w2 w3->Yn F w w3 (.returned (.tuple #[.slice none 0 0,.slice none 0 0,.int .i64 9]))))):=fun w' b rs iv cv rv h1 h2 h3 h4=>by
  refine(zBH w' b 0 (yI F) (vF F) rs (Xk F) (XZ.made h2 (Yh F) h3 hO.few) hO.inp (fun x hx=>hO.rul x.1 ?_)).mono ?_
  ·rw[<-h1];exact List.mem_map_of_mem hx
  ·rintro e w2 ⟨hb,⟨i,j,f,g,la,sv,hfp,rfl,hl,⟨sa,sc,rfl,hs⟩,hrm,ha1,ha2⟩|⟨hn,rfl⟩⟩
   ·have hb2:=h4.trans (hb.mono h4.size)
    exact .inl ⟨la,sa,_,sc,rfl,fun w3 h3=>⟨rs,h1,hb2.trans (h3.mono hb2.size),.inr ⟨i,j,f,g,la,sa,sc,rfl,hfp,hl.below h3,hs.below h3,hrm,ha1,ha2⟩⟩⟩
   ·have hb2:=h4.trans (hb.mono h4.size)
    exact .inr ⟨rfl,fun w3 h3=>⟨rs,h1,hb2.trans (h3.mono hb2.size),.inl ⟨rfl,hn⟩⟩⟩
 clear hO;generalize Xk F=G at *;generalize Yn F w=Q at *
 go_enter Tryz.func29,Tryz.ntmps29
 go_wp2_with fail
 refine HR.out.mono ?_;rintro e w1 hri;obtain⟨iv,cv,rv,rs,rfl,hrs,hmc,hb⟩:=HRN.out _ _ hri;obtain⟨o1,o2,o3⟩:=hmc.one;have HB:=zA hb;have HMc:=zA hmc;have hs:=hb.size;have HFe:=zA (fun w' b=>HFd.out w' b rs iv cv rv hrs);clear hb HR hri hmc hrs HRN HFd;have zKA:Hid ((w1.alloc (.cells Tryz.zeroCells129 129)).heap[w1.heap.size]? = some (.cells Tryz.zeroCells129 129 (0,0))):=zH _ _;have HM:Hid (((w1.alloc (.cells Tryz.zeroCells129 129)).setRow w1.heap.size (cX iv cv rv G 0)).heap[w1.heap.size]? = some (Ui iv cv rv G 0)):=bf _ _ _ _ _ _ zKA.out;have c67:((w1.alloc (.cells Tryz.zeroCells129 129)).setRow w1.heap.size (cX iv cv rv G 0)).cell? ⟨w1.heap.size,67,none⟩=some (.int .i64 0):=by have h8:=HM.out;unfold Ui at h8;exact(zC h8 67).trans (CH HGL.out 0)
 have HBm:Hid (Below w1.heap.size w1 ((w1.alloc (.cells Tryz.zeroCells129 129)).setRow w1.heap.size (cX iv cv rv G 0))):=yW (fe (tg _) _) (tg _) _
 go_wp2_with (refine wpList_store_row ?zJW 129 (.tmp 5) (.tmp 8) ?ho w1.heap.size (cX iv cv rv G 0) ?hx ?hy 129 Tryz.zeroCells129 zKA.out (wH HGL.out _ _ _ _) ?zJY (Yb o1 o2 o3 _ _) ?_
              case ho=>rfl
              case zJW=>rfl
              case hx=>rfl
              case hy=>rfl
              case zJY=>rw[J4,mI,mI,xO,HGL.out])
 have HMm:=zA (HMc.out.below HBm.out);have zKE:Hid (Below w.heap.size w ((w1.alloc (.cells Tryz.zeroCells129 129)).setRow w1.heap.size (cX iv cv rv G 0))):=HB.out.trans (HBm.out.mono hs);clear zKA c67 HBm HMc;generalize (w1.alloc (.cells Tryz.zeroCells129 129)).setRow w1.heap.size (cX iv cv rv G 0)=wM at *;refine(HFe.out wM w1.heap.size HM.out HMm.out zKE.out).mono ?_;rintro e w2 (⟨la,sa,sn,sc,rfl,hex⟩|⟨rfl,hno⟩)
 ·have HQ:=zA hex
  clear hex HFe HMm HM;go_wp2_with fail
  go_quiet (fail)
  go_wp2_with fail
  go_ret3
  exact HQ.out _ (qY (fe (tg _) _) _)
 ·have HQ:=zA (hno _ ((tl w2.heap.size w2).alloc (tg _) (.cells #[.slice none 0 0,.slice none 0 0] 132)))
  clear hno HFe HMm HM;go_wp2_with fail
  first|exact HQ.out|(go_ret3;exact HQ.out)
end Go.Proofs.YtnbpdffdnphbeabGreatDoor
