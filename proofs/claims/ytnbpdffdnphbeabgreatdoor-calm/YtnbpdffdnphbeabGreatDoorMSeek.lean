import Derived.Test.YtnbpdffdnphbeabGreatDoorMRk
import Derived.Test.YtnbpdffdnphbeabGreatDoorMLoad
set_option maxHeartbeats 2000000
set_option maxRecDepth 100000
namespace Go.Proofs.YtnbpdffdnphbeabGreatDoor
open Go.RowKit
variable{G:List Bool}{ls:List zE}{t:TypeId}{y:zT}(w:World)(I:List zP)(b:Nat)
def Up(I:List zP)(H:Nat)(rs:List MX)(G:List Bool)(i j:Nat):Prop:=i<j/\j<rs.length/\KL rs G i j=true/\zB1 I H (jC rs i).1 (jC rs j).1
structure XO(I:List zP)(H:Nat)(r:xO):Prop where
 pl:eG r I.length (xQ I)
 nd:∀c,pY r c=true->c<H
 ah:∀c,vL r c=true->c<H
 bd:∀i z,z∈xK r i -> -1000000<=z/\z<=1000000
theorem C1(x y:xO)(h1:x.guard.length<=10000)(h2:y.guard.length<=10000)(i:Nat):(tQ I x y i).length<=100000:=by
 unfold tQ gF;have a1:=cE (JS (kU I i).low (kU I i).high) (xK x i) (xK x i).length (j1 _);rw[bt]at a1;have a2:=cE a1.1 (xK y i) (xK y i).length (j1 _);rw[bt]at a2;have:=a1.2;have:=a2.2;have:=nC x i;have:=nC y i;simp only[pd,List.length_nil]at *;omega
def XM(I:List zP)(H:Nat)(x y:MX)(B b gi gh:Nat)(w w':World)(e:Ending):Prop:=∃r,e=.returned (.bool r)/\Below B w w'/\(r=false->¬zB1 I H x.1 y.1)/\(r=true->∃(f:Nat->Int) (g:Nat->Bool),(w'.cell? ⟨b,12,none⟩=some (.slice (some ⟨gi,0,none⟩) I.length I.length)/\w'.cell? ⟨b,13,none⟩=some (.slice (some ⟨gh,0,none⟩) H H)/\w'.cell? ⟨b,14,none⟩=some (.slice none 0 0))/\vX w' gi 3 I.length (fun i=>.int .i64 (f i))/\vX w' gh 4 H (fun c=>.bool (g c))/\fD I H ⟨(List.range I.length).map f,(List.range H).map g,[]⟩/\qU x.1 ⟨(List.range I.length).map f,(List.range H).map g,[]⟩=true/\qU y.1 ⟨(List.range I.length).map f,(List.range H).map g,[]⟩=true)
theorem zH5(F:Nat->List (Int × Int))(L:List NE)(p:Nat)(hp:p<L.length)(r:Nat)(hr:r<5):(aM F L)[p*5+r]? = (zFH F (L.getD p ZC))[r]? := zN (zFH F) 5 (fun _=>rfl) ZC L p r hp hr
theorem zGV(wr:World)(b:Nat)(I:List zP)(H:Nat)(x y:MX)(gi gh:Nat)(nv sv:Value)(L:List NE)(hN:zIP w wr I.length H gi gh (tQ I x.1 y.1) nv sv L (uY I x.1 y.1 I.length++uQ x.1 y.1 H) (lR I I.length) (lT x.1 y.1 H))(hL:L.map NE.place=vD I x.1 y.1)(hb:wr.heap[b]? = some (.cells (U6 x y nv sv (.slice (some ⟨gi,0,none⟩) I.length I.length) (.slice (some ⟨gh,0,none⟩) H H)) 170 (0,0)))(hlb:w.heap.size<=b)(hI:rO I)(fH:H<=10000)(hx:uL w x)(hy:uL w y)(ox:XO I H x.1)(oy:XO I H y.1) :
 Calls Tryz.prog 67 #[.pointer (some ⟨b,0,none⟩),.int .i64 0] wr fun e w'=>XM I H x y w.heap.size b gi gh wr w' e:=by
 obtain⟨na,nc,rfl⟩:=zQ hN.nums;obtain⟨sa,sc,rfl,hsw⟩:=vO hN.sws;have hzf:=C1 I x.1 y.1 hx.few2 hy.few2
 obtain⟨gn,hgn1,hgn2⟩:∃gn,(0<L.length->na=some ⟨gn,0,none⟩/\vX wr gn 223 (5*L.length) (fun j=>(aM (tQ I x.1 y.1) L).getD j (.slice none 0 0)))/\(0<L.length->w.heap.size<=gn):=by
  rcases hN.nums.2 with ⟨_,k2⟩|⟨g,cap,yM,k1,k2,k3,k4,k5,k6,k7⟩
  ·exact⟨0,fun h=>absurd h (by omega),fun h=>absurd h (by omega)⟩
  ·simp only[dm]at k1
   refine⟨g,fun _=>⟨k1.1,yM,k3,fun j hj=>?_⟩,fun _=>by omega⟩;have hl:(aM (tQ I x.1 y.1) L).length=L.length*5:=hN.nums.1;have hj2:j<(aM (tQ I x.1 y.1) L).length:=by omega
   have:=xM k3 (n:=L.length*5) k7 (p9 hj2);rw[zB k3 j]at this;rw[this];simp[List.getD,hj2]
 have ok:=zJ6 (b:=b) (na:=na) (gn:=gn) (nc:=nc) (sa:=sa) (sc:=sc) (gi:=gi) (gh:=gh) hL hI fH hzf hlb hN.loi hN.loh hgn2
 have hM:kW wr (dC w b I H x y L na gn nc sa sc gi gh) (yt I H x y):=by
  refine⟨hb,fun h0=>⟨(hgn1 h0).1,?_⟩,hN.rI,hN.rH,hsw,fun p hp=>?_,hx.below hN.bel,hy.below hN.bel⟩
  ·obtain⟨cs,q1,q2⟩:=(hgn1 h0).2
   refine⟨cs,q1,fun j hj=>?_⟩;rw[q2 j hj];have hj5:j/5<L.length:=by have:j<5*L.length:=hj;omega
   have hr:j%5<5:=Nat.mod_lt _ (by decide);have hat:=zH5 (tQ I x.1 y.1) L (j/5) hj5 (j%5) hr;rw[show j/5*5+j%5=j by omega]at hat;show some ((aM (tQ I x.1 y.1) L).getD j (.slice none 0 0))=_;rw[pe,hat];unfold sI dC yt;rcases(show j%5=0\/j%5=1\/j%5=2\/j%5=3\/j%5=4 by omega) with h|h|h|h|h <;> rw[h] <;> simp[zFH]
  ·have hm:L.getD p ZC∈L:=by simp[List.getD,show p<L.length from hp]
   exact hN.zn _ hm
 refine(Qi _ ok L.length 0 wr _ (by show 0+L.length=L.length;omega) (fun p hp=>absurd hp (by omega)) hM).mono ?_;rintro e w' ⟨r,s',rfl,h1,h2,h3⟩;refine⟨r,rfl,h2,fun hr=>?_,fun hr=>?_⟩
 ·subst hr
  refine zCA hL hI ox.pl oy.pl (fun c hc=>?_) (fun c hc=>?_) h3
  ·unfold uG at hc;rcases(lq _ _).mp hc with h|h
   ·exact ox.nd c h
   ·exact oy.nd c h
  ·rcases(lq _ _).mp hc with h|h
   ·exact ox.ah c h
   ·exact oy.ah c h
 ·subst hr
  obtain⟨k1,k2,k3⟩:=x7 hL hI h3;exact⟨s'.inp,s'.has,⟨h1.cells 12,h1.cells 13,h1.cells 14⟩,h1.rI,h1.rH,k1,k2,k3⟩
theorem zIP.below{w wr wy:World}{n h gi gh:Nat}{F:Nat->List (Int × Int)}{nv sv:Value}{L:List NE}{T:List jJ}{inp:Nat->Int}{has:Nat->Bool}(k:zIP w wr n h gi gh F nv sv L T inp has)(hb:Below wr.heap.size wr wy):zIP w wy n h gi gh F nv sv L T inp has :=
 ⟨k.bel.trans (hb.mono k.bel.size),eS k.nums hb,fun q hq=>(k.zn q hq).below hb,eS k.sws hb,k.rI.below hb,k.rH.below hb,k.loi,k.loh⟩
theorem x8(w2:World)(I:List zP)(H:Nat)(x y:MX)(e:Ending)(hp:Kl I H x y w w2 e)(hI:rO I)(fH:H<=10000)(hx:uL w x)(hy:uL w y)(ox:XO I H x.1)(oy:XO I H y.1):∃SR gi gh,e=.returned (.agg SR)/\SR.size=15/\(Tryz.prog.info? 170).map (·.size)=some SR.size/\SR.all (·.oneCell')=true/\Below w.heap.size w w2/\∀(b:Nat) (wr:World),Below w2.heap.size w2 wr->w2.heap.size<=b->wr.heap[b]? = some (.cells SR 170 (0,0))->Calls Tryz.prog 67 #[.pointer (some ⟨b,0,none⟩),.int .i64 0] wr fun e w'=>XM I H x y w.heap.size b gi gh wr w' e:=by
 obtain⟨gi,gh,nv,sv,L,rfl,hN,hL⟩:=hp;have hb:=hN.bel;obtain⟨a1,c1,e1,-⟩:=hx.sum;obtain⟨a2,c2,e2,-⟩:=hx.guard;obtain⟨a3,c3,e3,-⟩:=hy.sum;obtain⟨a4,c4,e4,-⟩:=hy.guard;obtain⟨na,nc,e5⟩:=zQ hN.nums;obtain⟨sa,sc,e6⟩:=zQ hN.sws;refine⟨_,gi,gh,rfl,rfl,yu _ _ _ _ _ _,CH (by rw[e1];rfl) (by rw[e2];rfl) (by rw[e3];rfl) (by rw[e4];rfl) (by rw[e5];rfl) (by rw[e6];rfl) rfl rfl,hb,fun b wr h1 h2 h3=>zGV w wr b I H x y gi gh nv sv L (hN.below h1) hL h3 (by have:=hb.size;omega) hI fH hx hy ox oy⟩
theorem zCU(h:vJ ls){x:zE}(hx:x∈ls)(hk:x.kind=3):∀y∈x.nd,vE ls y=true:=by
 obtain⟨i,hi,rfl⟩:=YW hx;have he:=h.err i hi;unfold lB at he;rw[tb (by omega),tb (by omega),tm hk]at he;unfold lO at he
 have hb:(uR (ls.take i) 3 (lA ls i).name || ((lA ls i).sum.any (fun x => !qJ ls x) || (lA ls i).nd.any (fun x => !vE ls x)))=false:=by
  cases hc:(uR (ls.take i) 3 (lA ls i).name || ((lA ls i).sum.any (fun x => !qJ ls x) || (lA ls i).nd.any (fun x => !vE ls x))) with
  | false=>rfl
  | true=>rw[hc,tm rfl]at he;exact absurd he (by decide)
 rw[bp,bp]at hb;intro y hy;have:=dw.1 hb.2.2 y hy;simpa using this
theorem zCY(h:vE ls y=true)(k:y.kind=6):uR ls 2 y.name=true:=by unfold vE at h;rwa [tb (by omega),tm k]at h
theorem u9(h:vE ls y=true)(k:y.kind=7):uR ls 1 y.name=true/\(y.other≠[]->uR ls 1 y.other=true):=by
 unfold vE at h;rw[tb (by omega),tb (by omega),tm k,pj,lq,pt]at h;exact⟨h.2,fun ho=>h.1.resolve_left ho⟩
theorem JN(h:vJ ls){nm:Bs}{k:Int}(hk:k=1\/k=2)(hh:uR ls k nm=true):∃i:Nat,zI (uC ls) nm=i/\i<(zR ls).length/\xQ (zR ls) i=decide (k=1):=by
 obtain⟨z,z1,z2,z3⟩:=zJE hh;have hz:z∈GM ls:=zJI z1 (by omega);have hm:nm∈uC ls:=by rw[Xo];exact p8.2 ⟨z,hz,z3⟩
 have h0:=(fU _ _).2 hm;have h1:=jS (uC ls) nm;obtain⟨i,hi⟩:∃i:Nat,zI (uC ls) nm=i:=⟨(zI (uC ls) nm).toNat,by omega⟩;have zK4:i<(zR ls).length:=by rw[<-zH4];omega
 have hat:=((QW nm (uC ls) (Xk h) 0 i).1 (by rw[cq];exact hi)).2;obtain⟨x,x1,-,x3,x4⟩:=Xn zK4;have e:x=z:=zHN h x1 hz (by rw[<-x4,hat,z3]);refine⟨i,hi,zK4,?_⟩;unfold xQ;rw[x3,e,aO (JL hz),z2]
theorem zH6{N:List zT}(hg:dA N)(hy:y∈N)(hk:y.kind=7):0<=y.num/\y.num<=9999:=by
 obtain⟨a,ha,rfl⟩:=ct hy;have e:pO N a=N[a]:=by unfold pO;simp[List.getD,ha]
 have:=(hg a ha).2.2.2 (by rw[e];omega) (by rw[e];omega) (by rw[e];omega);rw[e]at this;exact this.2
theorem zGY(h:vJ ls){x:zE}(hx:x∈ls)(hk:x.kind=3)(hg:fX x):XO (zR ls) (zO ls).length (uX (uC ls) (zO ls) x):=by
 have hN:=zCU h hx hk;have mem:∀y∈(uX (uC ls) (zO ls) x).guard,∃z∈x.nd,pZ (uC ls) (zO ls) z=y:=fun y hy=>p8.1 hy;refine⟨⟨fun y hy hyk=>?_,fun y hy hyk=>?_,fun y hy hyk ht=>?_⟩,fun c hc=>?_,fun c hc=>?_,fun i z hz=>?_⟩
 ·obtain⟨z,hz,rfl⟩:=mem y hy
  have hzk:z.kind=6:=hyk;obtain⟨i,h1,h2,h3⟩:=JN h (.inr rfl) (zCY (hN z hz) hzk);refine⟨i,h2,?_,h3⟩;show Us (uC ls) (zO ls) z=_;unfold Us;rw[tb (by omega),tm (.inl hzk),h1]
 ·obtain⟨z,hz,rfl⟩:=mem y hy
  have hzk:z.kind=7:=hyk;obtain⟨i,h1,h2,h3⟩:=JN h (.inl rfl) (u9 (hN z hz) hzk).1;refine⟨i,h2,?_,h3⟩;show Us (uC ls) (zO ls) z=_;unfold Us;rw[tb (by omega),tm (.inr hzk),h1]
 ·obtain⟨z,hz,rfl⟩:=mem y hy
  have hzk:z.kind=7:=hyk;have ho:z.other≠[]:=cb ht;obtain⟨i,h1,h2,h3⟩:=JN h (.inl rfl) ((u9 (hN z hz) hzk).2 ho);refine⟨i,h2,?_,h3⟩;show zFJ (uC ls) z=_;unfold zFJ;rw[tb ho,h1]
 ·obtain⟨p,hp,e⟩:=md.1 hc
  rw[pj,pt,pt]at e;obtain⟨q,hq,rfl⟩:=p8.1 hp;have e1:Bo (uC ls) q=3:=e.1;have e2:zFI (uC ls) (zO ls) q=(c:Int):=e.2;unfold Bo at e1;unfold zFI at e2;by_cases hq0:q.name=[]
  ·rw[tm hq0]at e1;exact absurd e1 (by decide)
  ·rw[tb hq0]at e1 e2
   by_cases hq1:zI (uC ls) q.name<0
   ·rw[tm hq1]at e2
    have:=jS (zO ls) q.name;omega
   ·rw[tb hq1]at e1;exact absurd e1 (by decide)
 ·obtain⟨y,hy,e⟩:=md.1 hc
  rw[pj,pt,pt]at e;obtain⟨z,hz,rfl⟩:=mem y hy;have e1:z.kind=5:=e.1;have e2:Us (uC ls) (zO ls) z=(c:Int):=e.2;unfold Us at e2;rw[tm e1]at e2;have:=jS (zO ls) z.name;omega
 ·obtain⟨y,hy,rfl⟩:=p8.1 hz
  obtain⟨h1,h2⟩:=mj.1 hy;rw[pj,pt]at h2;obtain⟨v,hv,rfl⟩:=mem y h1;have:=zH6 hg.nodes hv h2.1;show -1000000<=v.num/\v.num<=1000000;omega
theorem zDK(h:vJ ls)(hg:∀x∈ls,fX x):rO (zR ls):=by
 refine⟨fun i hi hn=>?_,fun i hi hn=>?_,by have:=V0 h;omega⟩
 ·obtain⟨x,x1,x2,x3,-⟩:=Xn hi
  have hk:x.kind=1:=by unfold xQ at hn;rw[x3,aO (JL x1)]at hn;exact cb hn
  have hp:=hg x x2;have:=uu h x2 hk;have e1:=hp.lo0;have e2:=hp.hi1;rw[x3];unfold mC;rw[tm hk];exact⟨e1,this,e2⟩
 ·obtain⟨x,x1,x2,x3,-⟩:=Xn hi
  have hk:¬x.kind=1:=by unfold xQ at hn;rw[x3,aO (JL x1)]at hn;exact of_decide_eq_false hn
  rw[x3];unfold mC;rw[tb hk]
theorem zDP:(Tryz.prog.info? 95).map (fun i=>(i.zero,i.size,i.bytes))=some (some (.agg #[.string ⟨#[]⟩,.int .i64 0]),2,24):=by kernel_rfl
def tH(I:List zP)(f:Nat->Int)(i:Nat):List Value:=(List.range i).flatMap fun j=>[.string ⟨(kU I j).name.toArray⟩,.int .i64 (f j)]
def mM(C:List (Bs × Nat))(g:Nat->Bool)(c:Nat):List Value:=(List.range c).flatMap fun j=>[.string ⟨(C.getD j ([],0)).1.toArray⟩,.int .i64 (if g j=true then 1 else 0)]
theorem UD(f:Nat->Int)(i:Nat):tH I f (i+1)=tH I f i++[.string ⟨(kU I i).name.toArray⟩,.int .i64 (f i)]:=by unfold tH;rw[lh,li];simp
theorem UF(C:List (Bs × Nat))(g:Nat->Bool)(c:Nat):mM C g (c+1)=mM C g c++[.string ⟨(C.getD c ([],0)).1.toArray⟩,.int .i64 (if g c=true then 1 else 0)]:=by unfold mM;rw[lh,li];simp
theorem ur{w:World}{a:Option Addr}{C:List (Bs × Nat)}(h:kS w a (wZ C)){i:Nat}(hi:i<C.length):∃g,a=some ⟨g,0,none⟩/\w.cell? ⟨g,i*2,none⟩=some (.string ⟨(C.getD i ([],0)).1.toArray⟩)/\w.cell? ⟨g,i*2+1,none⟩=some (.int .i64 ((C.getD i ([],0)).2:Nat)):=by
 obtain⟨g,e,q1⟩:=h.at ((zN (fun x:Bs × Nat=>[Value.string ⟨x.1.toArray⟩,.int .i64 (x.2:Nat)]) 2 (fun _=>rfl) ([],0) C i 0 hi (by decide)).trans rfl);obtain⟨g',e',q2⟩:=h.at ((zN (fun x:Bs × Nat=>[Value.string ⟨x.1.toArray⟩,.int .i64 (x.2:Nat)]) 2 (fun _=>rfl) ([],0) C i 1 hi (by decide)).trans rfl);obtain rfl:g=g':=by rw[e]at e';simpa using e'
 exact⟨g,e,q1,q2⟩
theorem KA(o:Nat)(I:List zP)(C:List (Bs × Nat))(rs:List MX)(G:List Bool)(gi gh:Nat)(f:Nat->Int)(gg:Nat->Bool)(h:Qm w b o I C rs G)(hI:vX w gi 3 I.length (fun i=>.int .i64 (f i)))(hH:vX w gh 4 C.length (fun c=>.bool (gg c))) :
 Calls Tryz.prog 68 #[.pointer (some ⟨b,o,none⟩),.agg #[.slice (some ⟨gi,0,none⟩) I.length I.length,.slice (some ⟨gh,0,none⟩) C.length C.length,.slice none 0 0]] w fun e w'=>∃v,e=.returned v/\w'.ownsRow w.heap.size 95 2 v (I.length+C.length) (tH I f I.length++mM C gg C.length)/\Below w.heap.size w w':=by
 obtain⟨i0,hi0,hz0,hz1,hz2⟩:=info_parts zDP;obtain⟨ia,ic,c0,hia⟩:=h.inp;obtain⟨ca,cc,c1,hca⟩:=h.con;have fI:=h.few1;have fC:=h.few2;have zKR:=zA (fun w' (hb:Below w.heap.size w w') i (hi:i<I.length)=>QI (hia.below hb).cel hi);have HCo:=zA (fun w' (hb:Below w.heap.size w w') i (hi:i<C.length)=>ur (hca.below hb).cel hi);have HMd:Hid (∀w',Below w.heap.size w w'->w'.cell? ⟨b,o,none⟩=some (.slice ia I.length ic)/\w'.cell? ⟨b,o+1,none⟩=some (.slice ca C.length cc)):=fun w' hb=>⟨(hb.cell (p:=⟨b,o,none⟩) (yF c0)).trans c0,(hb.cell (p:=⟨b,o+1,none⟩) (yF c1)).trans c1⟩;have HRI:Hid (∀w',Below w.heap.size w w'->∀i,i<I.length->w'.cell? ⟨gi,i,none⟩=some (.int .i64 (f i))):=fun w' hb i hi=>(hI.below hb).cell hi;have HRH:Hid (∀w',Below w.heap.size w w'->∀i,i<C.length->w'.cell? ⟨gh,i,none⟩=some (.bool (gg i))):=fun w' hb i hi=>(hH.below hb).cell hi;have lb:=yF c0;clear h hia hca hI hH c0 c1
 go_enter Tryz.func68,Tryz.ntmps68
 go_upto_region 2 with fail
 have HB0:Hid (Below w.heap.size w ((w.alloc (.cells #[.slice (some ⟨gi,0,none⟩) I.length I.length,.slice (some ⟨gh,0,none⟩) C.length C.length,.slice none 0 0] 168)).alloc (.cells #[] 95))):=(fj (j1 _) _).alloc (by simp) _;have HX0:Hid (((w.alloc (.cells #[.slice (some ⟨gi,0,none⟩) I.length I.length,.slice (some ⟨gh,0,none⟩) C.length C.length,.slice none 0 0] 168)).alloc (.cells #[] 95)).heap[w.heap.size]? = some (.cells #[.slice (some ⟨gi,0,none⟩) I.length I.length,.slice (some ⟨gh,0,none⟩) C.length C.length,.slice none 0 0] 168 (0,0))):=zU (zG _ _);have HO0:Hid (((w.alloc (.cells #[.slice (some ⟨gi,0,none⟩) I.length I.length,.slice (some ⟨gh,0,none⟩) C.length C.length,.slice none 0 0] 168)).alloc (.cells #[] 95)).ownsRow (w.heap.size+1) 95 2 (.slice (some ⟨w.heap.size+1,0,none⟩) 0 0) 0 (tH I f 0)):=⟨rfl,.inr ⟨w.heap.size+1,0,#[],rfl,j1 _,yW _ _ _ (by simp),j1 _,ty _,rfl,rfl⟩⟩;have hs0:w.heap.size+1<=((w.alloc (.cells #[.slice (some ⟨gi,0,none⟩) I.length I.length,.slice (some ⟨gh,0,none⟩) C.length C.length,.slice none 0 0] 168)).alloc (.cells #[] 95)).heap.size:=by simp
 generalize (w.alloc (.cells #[.slice (some ⟨gi,0,none⟩) I.length I.length,.slice (some ⟨gh,0,none⟩) C.length C.length,.slice none 0 0] 168)).alloc (.cells #[] 95)=w0 at *;generalize Value.slice (some ⟨w.heap.size+1,0,none⟩) 0 0=v0 at *;have HG:Hid (∀wr,Below (w.heap.size+1) w0 wr->Below w.heap.size w wr/\wr.heap[w.heap.size]? = some (.cells #[.slice (some ⟨gi,0,none⟩) I.length I.length,.slice (some ⟨gh,0,none⟩) C.length C.length,.slice none 0 0] 168 (0,0))):=fun wr hb=>⟨HB0.out.trans (hb.mono (mw _)),(hb.block _ (my _)).trans HX0.out⟩;obtain⟨d0,d1⟩:=HMd.out w0 HB0.out;clear HB0 HX0;go_wp2_with fail
 go_loopw [5,17] (fun ov iv wr=>∃(i:Nat),i<=I.length/\iv=.int .i64 i/\Hid (Below (w.heap.size+1) w0 wr)/\Hid (wr.ownsRow (w.heap.size+1) 95 2 ov i (tH I f i))) (fun _ iv _=>I.length-(intOf iv).toNat)
 case atStart=>exact⟨0,ty _,rfl,zA (tg _ _),HO0⟩
 case round =>
  obtain⟨i,hi,rfl,HB,HO⟩:=hrel;have zKH:=HB.out.size;obtain⟨hBw,hX⟩:=HG.out wr HB.out;by_cases zK4:i<I.length
  ·have ii:(i:Int)<(I.length:Int):=by omega
   obtain⟨g,rfl,n0,n1,n2,n3⟩:=zKR.out wr hBw i zK4;have ci:=HRI.out wr hBw i zK4;have x0:wr.cell? ⟨w.heap.size,0,none⟩=some (.slice (some ⟨gi,0,none⟩) I.length I.length):=zB hX 0;have lg:=yF n0;have lgi:=yF ci;have lx:=yF x0;have m1:wr.heap.size≠g:=by omega
   have m2:wr.heap.size≠gi:=by omega
   have m3:wr.heap.size≠w.heap.size:=by omega
   obtain⟨oa,oc,rfl⟩:=zQ HO.out;have HVs:=zA (UD I f i);have HO1:Hid (∀ob,(wr.alloc ob).ownsRow (w.heap.size+1) 95 2 (.slice oa i oc) i (tH I f i)):=fun ob=>HO.out.alloc ob;have HB1:Hid (∀ob,Below (w.heap.size+1) w0 (wr.alloc ob)):=fun ob=>HB.out.alloc (by omega) ob;clear hX hBw;generalize kU I i=xi at *;obtain⟨xn,xf,xl,xh⟩:=xi;simp only at n0 n1 n2 n3 HVs;generalize f i=fv at *
   go_upto_region 5 with fail
   have c5a:(wr.alloc (.cells #[.string ⟨xn.toArray⟩,.bool xf,.int .i64 xl,.int .i64 xh] 204)).cell? ⟨wr.heap.size,0,none⟩=some (.string ⟨xn.toArray⟩):=zB (zG _ _) 0;have c5b:(wr.alloc (.cells #[.string ⟨xn.toArray⟩,.bool xf,.int .i64 xl,.int .i64 xh] 204)).cell? ⟨w.heap.size,0,none⟩=some (.slice (some ⟨gi,0,none⟩) I.length I.length):=(((tg wr.heap.size wr).alloc (j1 _) _).cell (p:=⟨w.heap.size,0,none⟩) lx).trans x0;have c5c:(wr.alloc (.cells #[.string ⟨xn.toArray⟩,.bool xf,.int .i64 xl,.int .i64 xh] 204)).cell? ⟨gi,i,none⟩=some (.int .i64 fv):=(((tg wr.heap.size wr).alloc (j1 _) _).cell (p:=⟨gi,i,none⟩) lgi).trans ci;have HO5:=zA (HO1.out (.cells #[.string ⟨xn.toArray⟩,.bool xf,.int .i64 xl,.int .i64 xh] 204));have HB5:=zA (HB1.out (.cells #[.string ⟨xn.toArray⟩,.bool xf,.int .i64 xl,.int .i64 xh] 204));have hs5:w.heap.size+1<=(wr.alloc (.cells #[.string ⟨xn.toArray⟩,.bool xf,.int .i64 xl,.int .i64 xh] 204)).heap.size:=by simp;omega
   clear n0 n1 n2 n3 x0 ci HO1 HB1;generalize wr.alloc (.cells #[.string ⟨xn.toArray⟩,.bool xf,.int .i64 xl,.int .i64 xh] 204)=w5 at *;go_wp2_with fail
   go_region_law ((refine step_append_lies _ (by rfl) _ _ _ (by rfl) (w.heap.size+1) 95 i0 _ 2 24 Tryz.underlying71 hi0 hz0 hz1 hz2 rfl (by decide) (.slice oa i oc) i (tH I f i) (by rfl) (HO5.out.drew.alloc _) ⟨w5.heap.size,0,none⟩ 1 1 [.string ⟨xn.toArray⟩,.int .i64 fv] (by rfl) (by rfl) (zM _ _ _ _ rfl) (by simp[Value.oneCell']) (by decide) (by unfold maxLen;omega) (by omega) (by simp;omega) (w5.heap.size+1) (by simp) ?_;intro g2 cap w6 zKE zK7 hat hlt5))
   all_goals
    have HB6:Hid (Below (w.heap.size+1) w0 w6):=(HB5.out.drew.alloc hs5 _).grown zK7 (by show w.heap.size+1<=(w5.drew.alloc _).heap.size;simp;omega) (zV HO5.out);have HO6:Hid (w6.ownsRow (w.heap.size+1) 95 2 (.slice (some ⟨g2,0,none⟩) (i+1) cap) (i+1) (tH I f (i+1))):=by unfold Hid;rw[HVs.out];exact zKE
    clear zK7 zKE hat hlt5;go_wp2_with fail
    go_roundw
    case rel=>exact⟨i+1,by omega,by go_num,HB6,HO6⟩
    case measure=>simp[intOf];omega
  ·obtain rfl:i=I.length:=by omega
   have ii:¬(I.length:Int)<(I.length:Int):=by omega
   obtain⟨k0,k1⟩:=HMd.out wr hBw
   have HO1:Hid (∀ov,wr.ownsRow (w.heap.size+1) 95 2 ov I.length (tH I f I.length)->wr.ownsRow (w.heap.size+1) 95 2 ov (I.length+0) (tH I f I.length++mM C gg 0)):=fun ov h=>by
    have e:tH I f I.length++mM C gg 0=tH I f I.length:=mq _;rw[e];exact h
   have HO2:=zA (HO1.out _ HO.out);clear HO1 HO hX hBw d0 d1;generalize hSI:tH I f I.length=SI at *;have HSI:=zA hSI;clear hSI;generalize hwr:wr=wq at *;clear hwr;go_wp2_with fail
   go_loopw [5,39] (fun ov iv wr=>∃(c:Nat),c<=C.length/\iv=.int .i64 c/\Hid (Below (w.heap.size+1) w0 wr)/\Hid (wr.ownsRow (w.heap.size+1) 95 2 ov (I.length+c) (SI++mM C gg c))) (fun _ iv _=>C.length-(intOf iv).toNat)
   case atStart=>exact⟨0,ty _,rfl,HB,HO2⟩
   case round =>
    obtain⟨c,hc,rfl,HBc,HOc⟩:=hrel;have hszc:=HBc.out.size;obtain⟨hBw,hX⟩:=HG.out wr HBc.out;obtain⟨oa,oc,rfl⟩:=zQ HOc.out;by_cases hltc:c<C.length
    ·have jj:(c:Int)<(C.length:Int):=by omega
     obtain⟨g,rfl,n0,n1⟩:=HCo.out wr hBw c hltc;have ch:=HRH.out wr hBw c hltc;have x1:wr.cell? ⟨w.heap.size,1,none⟩=some (.slice (some ⟨gh,0,none⟩) C.length C.length):=zB hX 1;have lg:=yF n0;have lgh:=yF ch;have lx:=yF x1;have m1:wr.heap.size≠g:=by omega
     have m2:wr.heap.size≠gh:=by omega
     have m3:wr.heap.size≠w.heap.size:=by omega
     have HVs:=zA (UF C gg c);have HO1:Hid (∀ob,(wr.alloc ob).ownsRow (w.heap.size+1) 95 2 (.slice oa (I.length+c) oc) (I.length+c) (SI++mM C gg c)):=fun ob=>HOc.out.alloc ob;have HB1:Hid (∀ob,Below (w.heap.size+1) w0 (wr.alloc ob)):=fun ob=>HBc.out.alloc (by omega) ob;clear hX hBw;generalize (C.getD c ([],0)).1=cn at *;generalize (C.getD c ([],0)).2=cl at *;generalize gg c=gv at *;cases gv
     ·rw[tb (by simp)]at HVs
      go_upto_region 13 with fail
      have c5a:(wr.alloc (.cells #[.string ⟨cn.toArray⟩,.int .i64 (cl:Nat)] 208)).cell? ⟨wr.heap.size,0,none⟩=some (.string ⟨cn.toArray⟩):=zB (zG _ _) 0;have HO5:=zA (HO1.out (.cells #[.string ⟨cn.toArray⟩,.int .i64 (cl:Nat)] 208));have HB5:=zA (HB1.out (.cells #[.string ⟨cn.toArray⟩,.int .i64 (cl:Nat)] 208));have hs5:w.heap.size+1<=(wr.alloc (.cells #[.string ⟨cn.toArray⟩,.int .i64 (cl:Nat)] 208)).heap.size:=by simp;omega
      clear n0 n1 x1 ch HO1 HB1;generalize wr.alloc (.cells #[.string ⟨cn.toArray⟩,.int .i64 (cl:Nat)] 208)=w5 at *
      go_wp2_with (at_builtin;refine wpList_append_own _ rfl _ _ 71 rfl (w.heap.size+1) 95 i0 _ 2 24 Tryz.underlying71 hi0 hz0 hz1 hz2 rfl (by decide) _ _ _ rfl (HO5.out.alloc _) ⟨w5.heap.size,0,none⟩ 1 1 [.string ⟨cn.toArray⟩,.int .i64 0] rfl rfl ?c1k1 ?c1k2 ?c1k3 ?c1k4 ?c1k5 ?_)
      try (case c1k1=>first|exact zM _ _ _ _ rfl|exact fun _ _ h=>h)
      try (case c1k2=>first|exact⟨rfl,rfl⟩|(intro u hu;simp at hu;rcases hu with rfl|rfl <;> rfl))
      try (case c1k3=>unfold maxLen;omega)
      try (case c1k4=>omega)
      try (case c1k5=>first|omega|(simp;omega))
      intro v6 w6 zK5 zK3 _;have HB6:Hid (Below (w.heap.size+1) w0 w6):=(HB5.out.alloc hs5 _).grown zK3 (by simp;omega) (zV HO5.out);have HO6:Hid (w6.ownsRow (w.heap.size+1) 95 2 v6 (I.length+(c+1)) (SI++mM C gg (c+1))):=by unfold Hid;rw[HVs.out,<-cy];first|exact zK5|(rw[<-pr];exact zK5)
      clear zK5 zK3;go_wp2_with fail
      go_roundw
      case rel=>exact⟨c+1,by omega,by go_num,HB6,HO6⟩
      case measure=>simp[intOf];omega
     ·rw[tm rfl]at HVs
      go_upto_region 13 with fail
      have c5a:(wr.alloc (.cells #[.string ⟨cn.toArray⟩,.int .i64 (cl:Nat)] 208)).cell? ⟨wr.heap.size,0,none⟩=some (.string ⟨cn.toArray⟩):=zB (zG _ _) 0;have HO5:=zA (HO1.out (.cells #[.string ⟨cn.toArray⟩,.int .i64 (cl:Nat)] 208));have HB5:=zA (HB1.out (.cells #[.string ⟨cn.toArray⟩,.int .i64 (cl:Nat)] 208));have hs5:w.heap.size+1<=(wr.alloc (.cells #[.string ⟨cn.toArray⟩,.int .i64 (cl:Nat)] 208)).heap.size:=by simp;omega
      clear n0 n1 x1 ch HO1 HB1;generalize wr.alloc (.cells #[.string ⟨cn.toArray⟩,.int .i64 (cl:Nat)] 208)=w5 at *
      go_wp2_with (at_builtin;refine wpList_append_own _ rfl _ _ 71 rfl (w.heap.size+1) 95 i0 _ 2 24 Tryz.underlying71 hi0 hz0 hz1 hz2 rfl (by decide) _ _ _ rfl (HO5.out.alloc _) ⟨w5.heap.size,0,none⟩ 1 1 [.string ⟨cn.toArray⟩,.int .i64 1] rfl rfl ?c2k1 ?c2k2 ?c2k3 ?c2k4 ?c2k5 ?_)
      try (case c2k1=>first|exact zM _ _ _ _ rfl|exact fun _ _ h=>h)
      try (case c2k2=>first|exact⟨rfl,rfl⟩|(intro u hu;simp at hu;rcases hu with rfl|rfl <;> rfl))
      try (case c2k3=>unfold maxLen;omega)
      try (case c2k4=>omega)
      try (case c2k5=>first|omega|(simp;omega))
      intro v6 w6 zK5 zK3 _;have HB6:Hid (Below (w.heap.size+1) w0 w6):=(HB5.out.alloc hs5 _).grown zK3 (by simp;omega) (zV HO5.out);have HO6:Hid (w6.ownsRow (w.heap.size+1) 95 2 v6 (I.length+(c+1)) (SI++mM C gg (c+1))):=by unfold Hid;rw[HVs.out,<-cy];first|exact zK5|(rw[<-pr];exact zK5)
      clear zK5 zK3;go_wp2_with fail
      go_roundw
      case rel=>exact⟨c+1,by omega,by go_num,HB6,HO6⟩
      case measure=>simp[intOf];omega
    ·obtain rfl:c=C.length:=by omega
     have jj:¬(C.length:Int)<(C.length:Int):=by omega
     have HFn:=zA (yU HOc.out (mw w.heap.size));have HBf:=zA hBw;clear HOc hX hBw;go_wp2_with fail
     go_ret
     exact⟨_,rfl,by rw[HSI.out];exact HFn.out,HBf.out⟩
def eN(I:List zP)(H:Nat)(f:Nat->Int)(g:Nat->Bool):xA:=⟨(List.range I.length).map f,(List.range H).map g,[]⟩
def XS(I:List zP)(C:List (Bs × Nat))(rs:List MX)(G:List Bool)(w w':World)(e:Ending):Prop:=Below w.heap.size w w'/\((∃(i j:Nat) (f:Nat->Int) (g:Nat->Bool) (la:Option Addr) (sv:Value),C0 (Up I C.length rs G) i j/\e=.returned (.agg #[.slice la 2 2,sv])/\kS w' la [.string ⟨(jC rs i).1.label.toArray⟩,.string ⟨(jC rs j).1.label.toArray⟩]/\(∃sa sc,sv=.slice sa (I.length+C.length) sc/\kS w' sa (tH I f I.length++mM C g C.length))/\fD I C.length (eN I C.length f g)/\qU (jC rs i).1 (eN I C.length f g)=true/\qU (jC rs j).1 (eN I C.length f g)=true)\/((∀i j,¬Up I C.length rs G i j)/\e=.returned (.agg #[.slice none 0 0,.slice none 0 0])))
theorem JK(a b:Value):(Tryz.prog.info? 132).map (·.size)=some (#[a,b]:Array Value).size:=by
 show _=some 2
 kernel_rfl
theorem Jw{w:World}{p:Nat}{a b c d:Value}(h:w.heap[p]? = some (.cells #[a,b] t (0,0))):((w.setCell ⟨p,0,none⟩ c).setCell ⟨p,1,none⟩ d).heap[p]? = some (.cells #[c,d] t (0,0)):=by
 have q1:=tr w _ 0 _ _ c h;have q2:=tr _ _ 1 _ _ d q1;rw[q2];simp
theorem JW{w:World}{p:Nat}{a b c d:Value}{t':TypeId}{a':Option Addr}{xs:List Value}(h:w.heap[p]? = some (.cells #[a,b] t (0,0)))(hc:xG w t' a' xs)(zK8:t'≠t):xG ((w.setCell ⟨p,0,none⟩ c).setCell ⟨p,1,none⟩ d) t' a' xs:=(hc.set h zK8).set (tr w _ 0 _ _ c h) zK8
theorem De{w:World}{g:Nat}{x y:Value}(h:w.heap[g]? = some (.cells #[x,y] t (0,0))):xG w t (some ⟨g,0,none⟩) [x,y]:=.inr ⟨g,_,_,rfl,h,fun j hj=>match j,hj with
 | 0,_=>rfl
 | 1,_=>rfl
 | j+2,hj=>absurd hj (by simp)⟩
theorem zAZ(o:Nat)(I:List zP)(C:List (Bs × Nat))(rs:List MX)(G:List Bool)(h:Qm w b o I C rs G)(hI:rO I)(hr:∀x∈rs,XO I C.length x.1) :
 Calls Tryz.prog 51 #[.pointer (some ⟨b,o,none⟩)] w fun e w'=>XS I C rs G w w' e:=by
 have hf:=h.few3;have hfC:=h.few2;have hfI:=h.few1;have HMd:=zA (fun w' (hb:Below w.heap.size w w')=>(h.below hb));have HRl:=zA (fun w' (hb:Below w.heap.size w w')=>(h.below hb).rul);have HRv:=zA (fun w' (hb:Below w.heap.size w w') (i j:Nat) (hi:i<rs.length) (hj:j<rs.length)=>Ud w' b o I C rs G i j (h.below hb) hi hj)
 have HNw:Hid (∀w' (_:Below w.heap.size w w') (i j:Nat) (_:i<rs.length) (_:j<rs.length),Calls Tryz.prog 66 #[.pointer (some ⟨b,o,none⟩),uE (jC rs i),uE (jC rs j)] w' fun e w2=>∃SR gi gh,e=.returned (.agg SR)/\SR.size=15/\(Tryz.prog.info? 170).map (·.size)=some SR.size/\SR.all (·.oneCell')=true/\Below w'.heap.size w' w2/\∀(b:Nat) (wr:World),Below w2.heap.size w2 wr->w2.heap.size<=b->wr.heap[b]? = some (.cells SR 170 (0,0))->Calls Tryz.prog 67 #[.pointer (some ⟨b,0,none⟩),.int .i64 0] wr fun e w3=>XM I C.length (jC rs i) (jC rs j) w'.heap.size b gi gh wr w3 e):=fun w' hb i j hi hj=>by
  have hm:=h.below hb;obtain⟨a1,c1,p1,q1⟩:=hm.inp;obtain⟨a2,c2,p2,q2⟩:=hm.con;have hx:=hm.rows _ (rY hi);have hy:=hm.rows _ (rY hj);have ox:=hr _ (rY hi);have oy:=hr _ (rY hj);refine(Vb w' b o I C.length (jC rs i) (jC rs j) a1 a2 c1 c2 p1 p2 q1 hx hy (by omega) hfC (fun k z hz=>?_) (C1 I _ _ hx.few2 hy.few2)).mono ?_
  ·rcases List.mem_append.mp hz with h|h
   ·exact ox.bd k z h
   ·exact oy.bd k z h
  ·intro e w2 hp
   exact x8 w' w2 I C.length (jC rs i) (jC rs j) e hp hI hfC hx hy ox oy
 have HSe:=zA (fun w' (hb:Below w.heap.size w w') (gi gh:Nat) (f:Nat->Int) (g:Nat->Bool) (h1:vX w' gi 3 I.length (fun i=>.int .i64 (f i))) (h2:vX w' gh 4 C.length (fun c=>.bool (g c)))=>KA w' b o I C rs G gi gh f g (h.below hb) h1 h2)
 have HSl:Hid (∀i,i<rs.length->(∃a c,(jC rs i).2.1=.slice a (jC rs i).1.sum.length c)/\∃a c,(jC rs i).2.2=.slice a (jC rs i).1.guard.length c):=fun i hi=>by
  obtain⟨a,c,e,-⟩:=(h.rows _ (rY hi)).sum;obtain⟨a',c',e',-⟩:=(h.rows _ (rY hi)).guard;exact⟨⟨a,c,e⟩,a',c',e'⟩
 have HCl:Hid (∀i k,Up I C.length rs G i k ↔ (i<k/\k<rs.length/\KL rs G i k=true/\zB1 I C.length (jC rs i).1 (jC rs k).1)):=fun _ _=>Iff.rfl;have HFp:Hid (∀w' e,Below w.heap.size w w'->((∃(i j:Nat) (f:Nat->Int) (g:Nat->Bool) (la:Option Addr) (sv:Value),C0 (Up I C.length rs G) i j/\e=.returned (.agg #[.slice la 2 2,sv])/\kS w' la [.string ⟨(jC rs i).1.label.toArray⟩,.string ⟨(jC rs j).1.label.toArray⟩]/\(∃sa sc,sv=.slice sa (I.length+C.length) sc/\kS w' sa (tH I f I.length++mM C g C.length))/\fD I C.length (eN I C.length f g)/\qU (jC rs i).1 (eN I C.length f g)=true/\qU (jC rs j).1 (eN I C.length f g)=true)\/((∀i j,¬Up I C.length rs G i j)/\e=.returned (.agg #[.slice none 0 0,.slice none 0 0])))->XS I C rs G w w' e):=fun w' e h1 h2=>⟨h1,h2⟩;clear h hI hr HMd;generalize Up I C.length rs G=R at *;generalize XS I C rs G w=Q at *
 go_enter Tryz.func51,Tryz.ntmps51
 obtain⟨ra,rc,d2,-⟩:=HRl.out w (tg _ _);have lb:=yF d2;have m0:w.heap.size≠b:=by omega
 have HB0:Hid (Below w.heap.size w (w.alloc (.cells #[.slice none 0 0,.slice none 0 0] 132))):=fj (j1 _) _;have HX0:Hid ((w.alloc (.cells #[.slice none 0 0,.slice none 0 0] 132)).heap[w.heap.size]? = some (.cells #[.slice none 0 0,.slice none 0 0] 132 (0,0))):=zG _ _;have hs0:(w.alloc (.cells #[.slice none 0 0,.slice none 0 0] 132)).heap.size=w.heap.size+1:=by simp
 go_wp2_with fail
 generalize w.alloc (.cells #[.slice none 0 0,.slice none 0 0] 132)=w0 at *;have HG:Hid (∀wr,Below (w.heap.size+1) w0 wr->Below w.heap.size w wr/\wr.heap[w.heap.size]? = some (.cells #[.slice none 0 0,.slice none 0 0] 132 (0,0))):=fun wr hb=>⟨HB0.out.trans (hb.mono (mw _)),(hb.block _ (my _)).trans HX0.out⟩;clear HB0 HX0
 go_loopw [13] (fun iv wr=>∃(i:Nat),i<=rs.length/\iv=.int .i64 i/\Hid (Below (w.heap.size+1) w0 wr)/\Hid (∀i' k',R i' k'->i<=i')) (fun iv _=>rs.length-(intOf iv).toNat)
 case atStart=>exact⟨0,ty _,rfl,zA (tg _ _),zA fun _ _ _=>ty _⟩
 case round =>
  obtain⟨i,hi,rfl,HB,HM⟩:=hrel;have zKH:=HB.out.size;obtain⟨hBw,hX⟩:=HG.out wr HB.out;obtain⟨ra',rc',d2',zKQ⟩:=HRl.out wr hBw
  obtain⟨e1,e2⟩:ra'=ra/\rc'=rc:=by
   have:=(hBw.cell (p:=⟨b,o+2,none⟩) lb).trans d2;rw[this]at d2';simp only[ly,dm]at d2';exact⟨d2'.1.symm,d2'.2.2.symm⟩
  subst e1 e2;by_cases zK4:i<rs.length
  ·have ii:(i:Int)<(rs.length:Int):=by omega
   have HM1:Hid (∀i' k',R i' k'->i<i'\/(i=i'/\0<=k')):=fun i' k' h=>by
    have:=HM.out i' k' h;omega
   obtain⟨g,rfl,i0,i1,i2,i3,i4⟩:=eU zKQ.cel zK4;obtain⟨⟨p1,p2,e1⟩,p3,p4,e2⟩:=HSl.out i zK4;rw[e1]at i2;rw[e2]at i3;have lg:=yF i0;have lbr:b<wr.heap.size:=by have:=hBw.size;omega
   have m1:wr.heap.size≠g:=by omega
   have m2:wr.heap.size≠b:=by omega
   have HEq:Hid (uE (jC rs i)=.agg #[.string ⟨(jC rs i).1.label.toArray⟩,.int .i64 (jC rs i).1.conc,.slice p1 (jC rs i).1.sum.length p2,.slice p3 (jC rs i).1.guard.length p4,.int .i64 (jC rs i).1.root]):=by
    show uE (jC rs i)=_;unfold uE;rw[e1,e2]
   have HLi:Hid (∃l,l=(jC rs i).1.label):=⟨_,rfl⟩;clear hX hBw zKQ e1 e2;generalize hxl:(jC rs i).1.label=xl at *;generalize (jC rs i).1.conc=xc at *;generalize (jC rs i).1.sum.length=xn at *;generalize (jC rs i).1.guard.length=xm at *;generalize (jC rs i).1.root=xr at *;have HBe:=zA (HB.out.alloc (show w.heap.size+1<=wr.heap.size by omega) (.cells #[.string ⟨xl.toArray⟩,.int .i64 xc,.slice p1 xn p2,.slice p3 xm p4,.int .i64 xr] 162));have HXe:Hid ((wr.alloc (.cells #[.string ⟨xl.toArray⟩,.int .i64 xc,.slice p1 xn p2,.slice p3 xm p4,.int .i64 xr] 162)).heap[wr.heap.size]? = some (.cells #[.string ⟨xl.toArray⟩,.int .i64 xc,.slice p1 xn p2,.slice p3 xm p4,.int .i64 xr] 162 (0,0))):=zG _ _;have hse:(wr.alloc (.cells #[.string ⟨xl.toArray⟩,.int .i64 xc,.slice p1 xn p2,.slice p3 xm p4,.int .i64 xr] 162)).heap.size=wr.heap.size+1:=by simp
   go_wp2_with fail
   generalize wr.alloc (.cells #[.string ⟨xl.toArray⟩,.int .i64 xc,.slice p1 xn p2,.slice p3 xm p4,.int .i64 xr] 162)=wE at *;clear i0 i1 i2 i3 i4 d2' m1 m2;have hsw:w.heap.size+1<=wr.heap.size:=by omega
   generalize wr.heap.size=eb at *;have HGe:Hid (∀wx,Below (eb+1) wE wx->Below (w.heap.size+1) w0 wx/\wx.heap[eb]? = some (.cells #[.string ⟨xl.toArray⟩,.int .i64 xc,.slice p1 xn p2,.slice p3 xm p4,.int .i64 xr] 162 (0,0))):=fun wx hb=>⟨HBe.out.trans (hb.mono (by omega)),(hb.block _ (my _)).trans HXe.out⟩;clear HBe HXe
   go_loopw [23] (fun kv wy=>∃(k:Nat),k<=rs.length/\kv=.int .i64 k/\Hid (Below (eb+1) wE wy)/\Hid (∀i' k',R i' k'->i<i'\/(i=i'/\k<=k'))) (fun kv _=>rs.length-(intOf kv).toNat)
   case atStart=>exact⟨0,ty _,rfl,zA (tg _ _),HM1⟩
   case round =>
    obtain⟨k,hk,rfl,HBy,HMk⟩:=hrel;have hszy:=HBy.out.size;by_cases hltk:k<rs.length
    ·have kk:(k:Int)<(rs.length:Int):=by omega
     obtain⟨hB0,hE⟩:=HGe.out wr HBy.out;obtain⟨hBw,hX⟩:=HG.out wr hB0;obtain⟨ra2,rc2,d3,zKQ⟩:=HRl.out wr hBw
     obtain⟨e1,e2⟩:ra2=some ⟨g,0,none⟩/\rc2=rc':=by
      have:=(hBw.cell (p:=⟨b,o+2,none⟩) lb).trans d2;rw[this]at d3;simp only[ly,dm]at d3;exact⟨d3.1.symm,d3.2.2.symm⟩
     subst e1 e2;obtain⟨g',e',k0,k1,k2,k3,k4⟩:=eU zKQ.cel hltk;obtain rfl:g=g':=by simpa using e'
     obtain⟨⟨q1,q2,e1⟩,q3,q4,e2⟩:=HSl.out k hltk;rw[e1]at k2;rw[e2]at k3;have lg2:=yF k0;have m1:wr.heap.size≠g:=by omega
     have HKq:Hid (uE (jC rs k)=.agg #[.string ⟨(jC rs k).1.label.toArray⟩,.int .i64 (jC rs k).1.conc,.slice q1 (jC rs k).1.sum.length q2,.slice q3 (jC rs k).1.guard.length q4,.int .i64 (jC rs k).1.root]):=by
      show uE (jC rs k)=_;unfold uE;rw[e1,e2]
     have HCk:=zA (HCl.out i k)
     have HNx:Hid (¬R i k->∀i' k',R i' k'->i<i'\/(i=i'/\k+1<=k')):=fun hn i' k' h=>by
      have h1:=HMk.out i' k' h;rcases h1 with h1|⟨h1,h2⟩
      ·exact .inl h1
      ·by_cases hkk:k=k'
       ·subst h1 hkk;exact absurd h hn
       ·exact .inr ⟨h1,by omega⟩
     have HYs:Hid (R i k->∀w' (la:Option Addr) (sv:Value) (f:Nat->Int) (gg:Nat->Bool),Below w.heap.size w w'->kS w' la [.string ⟨xl.toArray⟩,.string ⟨(jC rs k).1.label.toArray⟩]->(∃sa sc,sv=.slice sa (I.length+C.length) sc/\kS w' sa (tH I f I.length++mM C gg C.length))->fD I C.length (eN I C.length f gg)->qU (jC rs i).1 (eN I C.length f gg)=true->qU (jC rs k).1 (eN I C.length f gg)=true->Q w' (.returned (.agg #[.slice la 2 2,sv]))):=fun h w' la sv f gg hb h1 h2 h3 h4 h5=>HFp.out w' _ hb (.inl ⟨i,k,f,gg,la,sv,⟨h,HMk.out⟩,rfl,by rw[hxl];exact h1,h2,h3,h4,h5⟩);have HRk:=zA (fun w' hb=>HRv.out w' hb i k zK4 hltk);have HNk:=zA (fun w' hb=>HNw.out w' hb i k zK4 hltk);rw[HEq.out,HKq.out]at HNk;clear zKQ e' e1 e2 hE hX hB0 hBw HKq;generalize (jC rs k).1.label=yl at *;generalize (jC rs k).1.conc=yc at *;generalize (jC rs k).1.sum.length=yn at *;generalize (jC rs k).1.guard.length=ym at *;generalize (jC rs k).1.root=yr at *;generalize KL rs G i k=rv at *;have HBl:=zA (HBy.out.alloc (show eb+1<=wr.heap.size by omega) (.cells #[.string ⟨yl.toArray⟩,.int .i64 yc,.slice q1 yn q2,.slice q3 ym q4,.int .i64 yr] 162));have HXl:Hid ((wr.alloc (.cells #[.string ⟨yl.toArray⟩,.int .i64 yc,.slice q1 yn q2,.slice q3 ym q4,.int .i64 yr] 162)).heap[wr.heap.size]? = some (.cells #[.string ⟨yl.toArray⟩,.int .i64 yc,.slice q1 yn q2,.slice q3 ym q4,.int .i64 yr] 162 (0,0))):=zG _ _;have hsl:(wr.alloc (.cells #[.string ⟨yl.toArray⟩,.int .i64 yc,.slice q1 yn q2,.slice q3 ym q4,.int .i64 yr] 162)).heap.size=wr.heap.size+1:=by simp
     go_upto_region 7 with fail
     generalize wr.alloc (.cells #[.string ⟨yl.toArray⟩,.int .i64 yc,.slice q1 yn q2,.slice q3 ym q4,.int .i64 yr] 162)=wL at *;clear k0 k1 k2 k3 k4 d3 m1;have hse2:eb+1<=wr.heap.size:=by omega
     generalize wr.heap.size=lb2 at *
     have HGl:Hid (∀wx,Below (lb2+1) wL wx->Below (eb+1) wE wx/\Below w.heap.size w wx/\wx.heap[w.heap.size]? = some (.cells #[.slice none 0 0,.slice none 0 0] 132 (0,0))/\wx.heap[eb]? = some (.cells #[.string ⟨xl.toArray⟩,.int .i64 xc,.slice p1 xn p2,.slice p3 xm p4,.int .i64 xr] 162 (0,0))/\wx.heap[lb2]? = some (.cells #[.string ⟨yl.toArray⟩,.int .i64 yc,.slice q1 yn q2,.slice q3 ym q4,.int .i64 yr] 162 (0,0))):=fun wx hb=>by
      have h1:=HBl.out.trans (hb.mono (by omega));obtain⟨h2,h3⟩:=HGe.out wx h1;obtain⟨h4,h5⟩:=HG.out wx h2;exact⟨h1,h4,h5,h3,(hb.block _ (my _)).trans HXl.out⟩
     clear HBl HXl;have HB7:=zA (HGl.out wL (tg _ _)).1;by_cases hik:i<k
     ·have gg:¬(k:Int)<=(i:Int):=by omega
      have HRw:=zA (HRk.out wL (HGl.out wL (tg _ _)).2.1);go_wp2_with fail
      refine HRw.out.mono ?_;rintro e w2 ⟨rfl,hb2⟩;have HB2:Hid (Below (lb2+1) wL w2):=by rw[hsl]at hb2;exact hb2
      clear hb2 HRw;cases rv
      ·have HNn:=zA (HNx.out (fun h=>by have:=(HCk.out.1 h).2.2.1;cases this))
       have HBn:=zA (HGl.out w2 HB2.out).1;go_wp2_with fail
       go_roundw
       case rel=>exact⟨k+1,by omega,by go_num,HBn,HNn⟩
       case measure=>simp[intOf];omega
      ·obtain⟨-,hBw2,-,hE2,hL2⟩:=HGl.out w2 HB2.out
       have x0:w2.cell? ⟨eb,0,none⟩=some (.string ⟨xl.toArray⟩):=(zB hE2 0).trans rfl;have x1:w2.cell? ⟨eb,1,none⟩=some (.int .i64 xc):=(zB hE2 1).trans rfl;have x2:w2.cell? ⟨eb,2,none⟩=some (.slice p1 xn p2):=(zB hE2 2).trans rfl;have x3:w2.cell? ⟨eb,3,none⟩=some (.slice p3 xm p4):=(zB hE2 3).trans rfl;have x4:w2.cell? ⟨eb,4,none⟩=some (.int .i64 xr):=(zB hE2 4).trans rfl;have y0:w2.cell? ⟨lb2,0,none⟩=some (.string ⟨yl.toArray⟩):=(zB hL2 0).trans rfl;have y1:w2.cell? ⟨lb2,1,none⟩=some (.int .i64 yc):=(zB hL2 1).trans rfl;have y2:w2.cell? ⟨lb2,2,none⟩=some (.slice q1 yn q2):=(zB hL2 2).trans rfl;have y3:w2.cell? ⟨lb2,3,none⟩=some (.slice q3 ym q4):=(zB hL2 3).trans rfl;have y4:w2.cell? ⟨lb2,4,none⟩=some (.int .i64 yr):=(zB hL2 4).trans rfl;have HNz:=zA (HNk.out w2 hBw2);have hs2:lb2+1<=w2.heap.size:=by have:=HB2.out.size;omega
       clear hBw2 hE2 hL2 HNk HRk HNw HRv;go_wp2_with fail
       refine HNz.out.mono ?_;rintro e w3 ⟨SR,gi,gh,rfl,zKD,hinf,hone,hb3,hsk⟩;have HIf:=zA hinf;have HSz:=zA zKD;have HAl:=zA hone;have HB3:=zA hb3;have HSk:=zA hsk;have hs3:=hb3.size;clear hinf zKD hone hb3 hsk HNz x0 x1 x2 x3 x4 y0 y1 y2 y3 y4;have HZr:Hid ((w3.alloc (.cells #[.string ⟨#[]⟩,.int .i64 0,.slice none 0 0,.slice none 0 0,.int .i64 0,.string ⟨#[]⟩,.int .i64 0,.slice none 0 0,.slice none 0 0,.int .i64 0,.slice none 0 0,.slice none 0 0,.slice none 0 0,.slice none 0 0,.slice none 0 0] 170)).heap[w3.heap.size]? = some (.cells C2 170 (0,0))):=zG _ _;have HBs:Hid (Below w3.heap.size w3 ((w3.alloc (.cells C2 170)).setRow w3.heap.size SR)):=yT (fj (j1 _) _) (j1 _) _;have HXs:Hid (((w3.alloc (.cells C2 170)).setRow w3.heap.size SR).heap[w3.heap.size]? = some (.cells SR 170 (0,0))):=bi _ _ C2 _ _ _ (zG w3 _);unfold C2 at HBs HXs
       go_wp2_with (refine wpList_store_row ?zK9 170 (.tmp 7) (.tmp 41) ?ho w3.heap.size SR ?hx ?hy 170 C2 HZr.out HIf.out ?zKC HAl.out ?_
                    case ho=>rfl
                    case zK9=>rfl
                    case hx=>rfl
                    case hy=>rfl
                    case zKC=>rw[HSz.out];rfl)
       generalize (w3.alloc (.cells #[.string ⟨#[]⟩,.int .i64 0,.slice none 0 0,.slice none 0 0,.int .i64 0,.string ⟨#[]⟩,.int .i64 0,.slice none 0 0,.slice none 0 0,.int .i64 0,.slice none 0 0,.slice none 0 0,.slice none 0 0,.slice none 0 0,.slice none 0 0] 170)).setRow w3.heap.size SR=wS at *;refine(HSk.out w3.heap.size wS HBs.out (j1 _) HXs.out).mono ?_;rintro e w4 ⟨r,rfl,hb4,hno,hyes⟩;have HB4:Hid (Below (lb2+1) wL w4):=(HB2.out.trans ((HB3.out.trans (HBs.out.mono hs3)).mono hs2)).trans (hb4.mono hs2);clear HIf HSz HAl HSk HZr HBs HXs hb4;cases r
       ·have HNn:=zA (HNx.out (fun h=>hno rfl (HCk.out.1 h).2.2.2))
        have HBn:=zA (HGl.out w4 HB4.out).1;clear hno hyes;go_wp2_with fail
        go_roundw
        case rel=>exact⟨k+1,by omega,by go_num,HBn,HNn⟩
        case measure=>simp[intOf];omega
       ·obtain⟨f,gg,⟨s12,s13,s14⟩,hrI,hrH,hroom,ha1,ha2⟩:=hyes rfl
        have hRik:R i k:=HCk.out.2 ⟨hik,hltk,by first|trivial|rfl,_,hroom,ha1,ha2⟩;obtain⟨-,hBw4,hX4,hE4,hL4⟩:=HGl.out w4 HB4.out;have hsw4:=hBw4.size;have HPo:=zA (fun w' la sv hb h1 h2=>HYs.out hRik w' la sv f gg hb h1 h2 hroom ha1 ha2)
        have HSw:Hid (∀w',Below w4.heap.size w4 w'->Calls Tryz.prog 68 #[.pointer (some ⟨b,o,none⟩),.agg #[.slice (some ⟨gi,0,none⟩) I.length I.length,.slice (some ⟨gh,0,none⟩) C.length C.length,.slice none 0 0]] w' fun e w5=>∃sa sc,e=.returned (.slice sa (I.length+C.length) sc)/\xG w5 95 sa (tH I f I.length++mM C gg C.length)/\Below w'.heap.size w' w5):=fun w' hb=>by
         refine(HSe.out w' (hBw4.trans (hb.mono hsw4)) gi gh f gg (hrI.below hb) (hrH.below hb)).mono ?_;rintro e w5 ⟨v,rfl,h1,h2⟩;obtain⟨sa,sc,rfl,h3⟩:=vO h1;exact⟨sa,sc,rfl,h3,h2⟩
        have lsb:=yF s12;have lsb2:lb2<w3.heap.size:=by omega
        have lre:=zL hX4;have lee:=zL hE4;have lle:=zL hL4
        have HAf:Hid (∀w5,Below w4.heap.size w4 w5->(w5.cell? ⟨eb,0,none⟩=some (.string ⟨xl.toArray⟩)/\w5.cell? ⟨lb2,0,none⟩=some (.string ⟨yl.toArray⟩)/\w5.cell? ⟨w3.heap.size,12,none⟩=some (.slice (some ⟨gi,0,none⟩) I.length I.length)/\w5.cell? ⟨w3.heap.size,13,none⟩=some (.slice (some ⟨gh,0,none⟩) C.length C.length)/\w5.cell? ⟨w3.heap.size,14,none⟩=some (.slice none 0 0))/\(w5.cell? ⟨w.heap.size,0,none⟩=some (.slice none 0 0)/\w5.cell? ⟨w.heap.size,1,none⟩=some (.slice none 0 0)/\w5.frozen? ⟨w.heap.size,0,none⟩=false/\w5.frozen? ⟨w.heap.size,1,none⟩=false)/\Below w.heap.size w w5/\w5.heap[w.heap.size]? = some (.cells #[.slice none 0 0,.slice none 0 0] 132 (0,0))/\w.heap.size<w5.heap.size):=fun w5 hb=>by
         have hR5:=(hb.block _ lre).trans hX4;have hE5:=(hb.block _ lee).trans hE4;have hL5:=(hb.block _ lle).trans hL4;exact⟨⟨(zB hE5 0).trans rfl,(zB hL5 0).trans rfl,(hb.cell (p:=⟨w3.heap.size,12,none⟩) lsb).trans s12,(hb.cell (p:=⟨w3.heap.size,13,none⟩) lsb).trans s13,(hb.cell (p:=⟨w3.heap.size,14,none⟩) lsb).trans s14⟩,⟨(zB hR5 0).trans rfl,(zB hR5 1).trans rfl,by simp[World.frozen?,hR5],by simp[World.frozen?,hR5]⟩,hBw4.trans (hb.mono hsw4),hR5,zL hR5⟩
        obtain⟨⟨t0,t1,t2,t3,t4⟩,⟨t5,t6,t7,t8⟩,-,-,-⟩:=HAf.out w4 (tg _ _);clear hroom ha1 ha2 hrI hrH s12 s13 s14 hX4 hE4 hL4 hBw4 hno hyes HYs HCk HSe;generalize tH I f I.length++mM C gg C.length=SV at *;generalize w3.heap.size=sb at *;have n1:w4.heap.size≠eb:=by omega
        have n2:w4.heap.size≠lb2:=by omega
        have n3:w4.heap.size≠sb:=by omega
        have n4:w4.heap.size≠w.heap.size:=by omega
        have a1:w.heap.size≠eb:=by omega
        have a2:w.heap.size≠lb2:=by omega
        have a3:w.heap.size≠sb:=by omega
        have a4:eb≠w.heap.size:=by omega
        have a5:lb2≠w.heap.size:=by omega
        have a6:sb≠w.heap.size:=by omega
        go_upto_region 10 with fail
        go_region_held3 (fun w'=>w'.cell? ⟨eb,0,none⟩=some (.string ⟨xl.toArray⟩)/\w'.cell? ⟨lb2,0,none⟩=some (.string ⟨yl.toArray⟩)/\w'.cell? ⟨sb,12,none⟩=some (.slice (some ⟨gi,0,none⟩) I.length I.length)/\w'.cell? ⟨sb,13,none⟩=some (.slice (some ⟨gh,0,none⟩) C.length C.length)/\w'.cell? ⟨sb,14,none⟩=some (.slice none 0 0)) (go_keep) (
         (go_at_call 68;first
          | (refine(HSw.out _ (po (tg _ _))).mono ?_;rintro e w5 ⟨sa,sc,rfl,hcv,hb5⟩;obtain⟨⟨r0,r1,r2,r3,r4⟩,⟨z0,z1,z2,z3⟩,hB5,hR5,hl5⟩:=HAf.out w5 ((po (tg _ _)).trans hb5);have hs45:w4.heap.size<=w5.heap.size:=((po (tg w4.heap.size w4)).trans hb5).size;have n5:w5.heap.size≠eb:=(by omega);have n6:w5.heap.size≠w.heap.size:=(by omega);have n7:w5.heap.size≠lb2:=(by omega);have n8:w5.heap.size≠sb:=(by omega))
          | (refine(HSw.out _ ((tg w4.heap.size w4).drew.alloc (j1 _) _)).mono ?_;rintro e w5 ⟨sa,sc,rfl,hcv,hb5⟩;obtain⟨⟨r0,r1,r2,r3,r4⟩,⟨z0,z1,z2,z3⟩,hB5,hR5,hl5⟩:=HAf.out w5 (((tg w4.heap.size w4).drew.alloc (j1 _) _).trans (hb5.mono (by simp))))))
        ·have hlab:w5.heap[w4.heap.size]? = some (.cells #[.string ⟨xl.toArray⟩,.string ⟨yl.toArray⟩] 9 (0,0)):=(hb5.block _ (zY _ _)).trans (zG _ _)
         have HQ:=zA (HPo.out ((w5.setCell ⟨w.heap.size,0,none⟩ (.slice (some ⟨w4.heap.size,0,none⟩) 2 2)).setCell ⟨w.heap.size,1,none⟩ (.slice sa (I.length+C.length) sc)) (some ⟨w4.heap.size,0,none⟩) (.slice sa (I.length+C.length) sc) ((hB5.setCell (by simp) _).setCell (by simp) _) (JW hR5 (De hlab) (by decide)).cel ⟨sa,sc,rfl,(JW hR5 hcv (by decide)).cel⟩);have HFr:=zA (Jw (c:=.slice (some ⟨w4.heap.size,0,none⟩) 2 2) (d:=.slice sa (I.length+C.length) sc) hR5);go_wp2_with fail
         refine pb (v:=.agg #[.slice (some ⟨w4.heap.size,0,none⟩) 2 2,.slice sa (I.length+C.length) sc]) (results_cell_row Tryz.results51 _ _ w.heap.size 132 #[.slice (some ⟨w4.heap.size,0,none⟩) 2 2,.slice sa (I.length+C.length) sc] (0,0) _ rfl HFr.out Tryz.underlying132 rfl (JK _ _)) rfl HQ.out
        ·have hlab:(((w5.setCell ⟨w.heap.size,0,none⟩ (.slice (some ⟨w5.heap.size,0,none⟩) 2 2)).setCell ⟨w.heap.size,1,none⟩ (.slice sa (I.length+C.length) sc)).alloc (.cells #[.string ⟨xl.toArray⟩,.string ⟨yl.toArray⟩] 9)).heap[w5.heap.size]? = some (.cells #[.string ⟨xl.toArray⟩,.string ⟨yl.toArray⟩] 9 (0,0)):=yW _ _ _ (by simp)
         have hbe:Below w.heap.size w ((w5.setCell ⟨w.heap.size,0,none⟩ (.slice (some ⟨w5.heap.size,0,none⟩) 2 2)).setCell ⟨w.heap.size,1,none⟩ (.slice sa (I.length+C.length) sc)):=(hB5.setCell (by simp) _).setCell (by simp) _;have HQ:=zA (HPo.out (((w5.setCell ⟨w.heap.size,0,none⟩ (.slice (some ⟨w5.heap.size,0,none⟩) 2 2)).setCell ⟨w.heap.size,1,none⟩ (.slice sa (I.length+C.length) sc)).alloc (.cells #[.string ⟨xl.toArray⟩,.string ⟨yl.toArray⟩] 9)) (some ⟨w5.heap.size,0,none⟩) (.slice sa (I.length+C.length) sc) (hbe.alloc hbe.size _) (De hlab).cel ⟨sa,sc,rfl,((JW hR5 hcv (by decide)).below (fj (j1 _) _)).cel⟩);have HFr:Hid ((((w5.setCell ⟨w.heap.size,0,none⟩ (.slice (some ⟨w5.heap.size,0,none⟩) 2 2)).setCell ⟨w.heap.size,1,none⟩ (.slice sa (I.length+C.length) sc)).alloc (.cells #[.string ⟨xl.toArray⟩,.string ⟨yl.toArray⟩] 9)).heap[w.heap.size]? = some (.cells #[.slice (some ⟨w5.heap.size,0,none⟩) 2 2,.slice sa (I.length+C.length) sc] 132 (0,0))):=zU (Jw hR5);clear hlab hbe;go_wp2_with fail
         refine pb (v:=.agg #[.slice (some ⟨w5.heap.size,0,none⟩) 2 2,.slice sa (I.length+C.length) sc]) (results_cell_row Tryz.results51 _ _ w.heap.size 132 #[.slice (some ⟨w5.heap.size,0,none⟩) 2 2,.slice sa (I.length+C.length) sc] (0,0) _ rfl HFr.out Tryz.underlying132 rfl (JK _ _)) rfl HQ.out
     ·have gg:(k:Int)<=(i:Int):=by omega
      have HNn:=zA (HNx.out (fun h=>hik (HCk.out.1 h).1));go_wp2_with fail
      go_roundw
      case rel=>exact⟨k+1,by omega,by go_num,HB7,HNn⟩
      case measure=>simp[intOf];omega
    ·obtain rfl:k=rs.length:=by omega
     have kk:¬(rs.length:Int)<(rs.length:Int):=by omega
     have HNo:Hid (∀i' k',R i' k'->i+1<=i'):=fun i' k' h=>by
      have h1:=HMk.out i' k' h;have h2:=((HCl.out i' k').1 h).2.1;omega
     have HBn:=zA (HGe.out _ HBy.out).1;go_wp2_with fail
     go_roundw
     case rel=>exact⟨i+1,by omega,by go_num,HBn,HNo⟩
     case measure=>simp[intOf];omega
  ·obtain rfl:i=rs.length:=by omega
   have ii:¬(rs.length:Int)<(rs.length:Int):=by omega
   have HQ:=zA (HFp.out ((wr.setCell ⟨w.heap.size,0,none⟩ (.slice none 0 0)).setCell ⟨w.heap.size,1,none⟩ (.slice none 0 0)) (.returned (.agg #[.slice none 0 0,.slice none 0 0])) ((hBw.setCell (by simp) _).setCell (by simp) _) (.inr ⟨fun i' k' h=>by
    have h1:=HM.out i' k' h;have h2:=(HCl.out i' k').1 h;omega,rfl⟩))
   have HFr:=zA (Jw (c:=.slice none 0 0) (d:=.slice none 0 0) hX);have z0:wr.cell? ⟨w.heap.size,0,none⟩=some (.slice none 0 0):=(zB hX 0).trans rfl;have z1:wr.cell? ⟨w.heap.size,1,none⟩=some (.slice none 0 0):=(zB hX 1).trans rfl;have y0:wr.frozen? ⟨w.heap.size,0,none⟩=false:=by simp[World.frozen?,hX]
   have y1:wr.frozen? ⟨w.heap.size,1,none⟩=false:=by simp[World.frozen?,hX]
   go_wp2_with fail
   refine pb (v:=.agg #[.slice none 0 0,.slice none 0 0]) (results_cell_row Tryz.results51 _ _ w.heap.size 132 #[.slice none 0 0,.slice none 0 0] (0,0) _ rfl HFr.out Tryz.underlying132 rfl (JK _ _)) rfl HQ.out
theorem Yg{iv cv rv:Value}(k:Int){j:Nat}(hj:j<3+G.length):(lH iv cv rv G k)[j]? = (bP iv cv rv G)[j]? := by
 unfold lH;rw[dj (by rw[mA];exact hj)]
theorem Qm.made{w:World}{b:Nat}{iv cv rv:Value}{I:List zP}{C:List (Bs × Nat)}{rs:List MX}(h:w.heap[b]? = some (J8 iv cv rv G 0))(hG:G.length=64)(hc:mL w iv cv rv I C rs)(hf:I.length<=100):Qm w b 0 I C rs G:=by
 unfold J8 at h;obtain⟨g0,g1,g2⟩:=JB iv cv rv G;obtain⟨a1,c1,e1,k1⟩:=hc.inp;obtain⟨a2,c2,e2,k2⟩:=hc.con;obtain⟨a3,c3,e3,k3⟩:=hc.rul;refine⟨⟨a1,c1,?_,k1⟩,⟨a2,c2,?_,k2⟩,⟨a3,c3,?_,k3⟩,hc.rows,fun k hk=>?_,hf,hc.few2,hc.few3⟩
 ·rw[<-e1];exact((zB h 0).trans (Yg 0 (by omega))).trans g0
 ·rw[<-e2];exact((zB h 1).trans (Yg 0 (by omega))).trans g1
 ·rw[<-e3];exact((zB h 2).trans (Yg 0 (by omega))).trans g2
 ·rw[cq];exact((zB h (3+k)).trans (Yg 0 (by omega))).trans (YZ iv cv rv G k (by omega))
def Xs(F:List zE):List Bool:=zS (uT (xW F) F gZ)
theorem Yl(F:List zE):(Xs F).length=64:=by unfold Xs zS;rw[dR,pT];exact yY
structure D9(F:List zE):Prop where
 few:(zR F).length<=100
 inp:rO (zR F)
 rul:∀x∈uD ((zR F).map zP.name) ((yR F).map Prod.fst) F,XO (zR F) (yR F).length x
def XK(F:List zE)(w w':World)(e:Ending):Prop:=∃rs:List MX,rs.map Prod.fst=uD ((zR F).map zP.name) ((yR F).map Prod.fst) F/\Below w.heap.size w w'/\((∃b:Nat,e=.returned (.tuple #[.pointer (some ⟨b,0,none⟩),.int .i64 0])/\mH w' b F rs/\∀i j,¬Up (zR F) (yR F).length rs (Xs F) i j)\/(e=.returned (.tuple #[.pointer none,.int .i64 8])/\∃i j,Up (zR F) (yR F).length rs (Xs F) i j))
theorem Qk(l:Bs)(w:World)(F:List zE)(hO:D9 F)(hR:Calls Tryz.prog 50 #[.string ⟨l.toArray⟩] w fun e w'=>lE F w w' e) :
 Calls Tryz.prog 27 #[.string ⟨l.toArray⟩,.bool true] w fun e w'=>XK F w w' e:=by
 have HR:=zA hR;clear hR;have zKS:=zA (Yl F);have HRN:Hid (∀w' e,lE F w w' e->∃iv cv rv rs,e=.returned (.agg (lH iv cv rv (Xs F) 0))/\rs.map Prod.fst=uD ((zR F).map zP.name) ((yR F).map Prod.fst) F/\mL w' iv cv rv (zR F) (yR F) rs/\Below w.heap.size w w'):=fun w' e h=>h;have HSI:Hid (∀w' e (rs:List MX),rs.map Prod.fst=uD ((zR F).map zP.name) ((yR F).map Prod.fst) F->Below w.heap.size w w'->((∃b:Nat,e=.returned (.tuple #[.pointer (some ⟨b,0,none⟩),.int .i64 0])/\mH w' b F rs/\∀i j,¬Up (zR F) (yR F).length rs (Xs F) i j)\/(e=.returned (.tuple #[.pointer none,.int .i64 8])/\∃i j,Up (zR F) (yR F).length rs (Xs F) i j))->XK F w w' e):=fun w' e rs h1 h2 h3=>⟨rs,h1,h2,h3⟩;have HBN:Hid (∀w' b iv cv rv rs,w'.heap[b]? = some (.cells (Gz iv cv rv (Xs F)) 136 (0,0))->rs.map Prod.fst=uD ((zR F).map zP.name) ((yR F).map Prod.fst) F->mL w' iv cv rv (zR F) (yR F) rs->mH w' b F rs):=fun w' b iv cv rv rs h1 h2 h3=>⟨⟨iv,cv,rv,h1,h3⟩,h2⟩
 have HFd:Hid (∀w' b rs iv cv rv,rs.map Prod.fst=uD ((zR F).map zP.name) ((yR F).map Prod.fst) F->w'.heap[b]? = some (J8 iv cv rv (Xs F) 0)->mL w' iv cv rv (zR F) (yR F) rs->Calls Tryz.prog 51 #[.pointer (some ⟨b,0,none⟩)] w' fun e w2=>Below w'.heap.size w' w2/\((∃la sa sn sc,e=.returned (.agg #[.slice la 2 2,.slice sa sn sc])/\∃i j,Up (zR F) (yR F).length rs (Xs F) i j)\/(e=.returned (.agg #[.slice none 0 0,.slice none 0 0])/\∀i j,¬Up (zR F) (yR F).length rs (Xs F) i j))):=fun w' b rs iv cv rv h1 h2 h3=>by
  refine(zAZ w' b 0 (zR F) (yR F) rs (Xs F) (Qm.made h2 (Yl F) h3 hO.few) hO.inp (fun x hx=>hO.rul x.1 ?_)).mono ?_
  ·rw[<-h1];exact List.mem_map_of_mem hx
  ·rintro e w2 ⟨hb,⟨i,j,f,g,la,sv,hfp,rfl,-,⟨sa,sc,rfl,-⟩,-,-,-⟩|⟨hn,rfl⟩⟩
   ·exact⟨hb,.inl ⟨la,sa,_,sc,rfl,i,j,hfp.1⟩⟩
   ·exact⟨hb,.inr ⟨rfl,hn⟩⟩
 clear hO;generalize Xs F=G at *;generalize XK F w=Q at *
 go_enter Tryz.func27,Tryz.ntmps27
 go_wp2_with fail
 refine HR.out.mono ?_;rintro e w1 hri;obtain⟨iv,cv,rv,rs,rfl,hrs,hmc,hb⟩:=HRN.out _ _ hri;obtain⟨o1,o2,o3⟩:=hmc.one;have HB:=zA hb;have HMc:=zA hmc;have hs:=hb.size;have HSJ:=zA (fun w' e=>HSI.out w' e rs hrs);have HFe:=zA (fun w' b=>HFd.out w' b rs iv cv rv hrs);have HBe:=zA (fun w' b h1 h2=>HBN.out w' b iv cv rv rs h1 hrs h2);clear hb HR hri hmc hrs HRN HSI HFd HBN;have zKN:Hid ((w1.alloc (.cells Tryz.zeroCells129 129)).heap[w1.heap.size]? = some (.cells Tryz.zeroCells129 129 (0,0))):=zG _ _;have HM:Hid (((w1.alloc (.cells Tryz.zeroCells129 129)).setRow w1.heap.size (lH iv cv rv G 0)).heap[w1.heap.size]? = some (J8 iv cv rv G 0)):=bi _ _ _ _ _ _ zKN.out;have c67:((w1.alloc (.cells Tryz.zeroCells129 129)).setRow w1.heap.size (lH iv cv rv G 0)).cell? ⟨w1.heap.size,67,none⟩=some (.int .i64 0):=by have h8:=HM.out;unfold J8 at h8;exact(zB h8 67).trans (J9 zKS.out 0)
 have HBm:Hid (Below w1.heap.size w1 ((w1.alloc (.cells Tryz.zeroCells129 129)).setRow w1.heap.size (lH iv cv rv G 0))):=yT (fj (j1 _) _) (j1 _) _
 go_wp2_with (refine wpList_store_row ?zK9 129 (.tmp 6) (.tmp 9) ?ho w1.heap.size (lH iv cv rv G 0) ?hx ?hy 129 Tryz.zeroCells129 zKN.out (aN zKS.out _ _ _ _) ?zKC (eW o1 o2 o3 _ _) ?_
              case ho=>rfl
              case zK9=>rfl
              case hx=>rfl
              case hy=>rfl
              case zKC=>rw[Yf,jO,jO,yY,zKS.out])
 have HMm:=zA (HMc.out.below HBm.out);have zKO:Hid (Below w.heap.size w ((w1.alloc (.cells Tryz.zeroCells129 129)).setRow w1.heap.size (lH iv cv rv G 0))):=HB.out.trans (HBm.out.mono hs);clear zKN c67 HBm HMc;generalize (w1.alloc (.cells Tryz.zeroCells129 129)).setRow w1.heap.size (lH iv cv rv G 0)=wM at *;have lm:=zL HM.out;refine(HFe.out wM w1.heap.size HM.out HMm.out).mono ?_;rintro e w2 ⟨hb2,⟨la,sa,sn,sc,rfl,hex⟩|⟨rfl,hno⟩⟩
 ·have HB2:Hid (Below w.heap.size w w2):=zKO.out.trans (hb2.mono zKO.out.size)
  have HEx:=zA hex;have hs2:=HB2.out.size;clear hex hb2 HFe HMm HM;have HQ:=zA (HSJ.out (w2.alloc (.cells #[.slice la 2 2,.slice sa sn sc] 132)) _ (HB2.out.alloc hs2 _) (.inr ⟨rfl,HEx.out⟩));go_wp2_with fail
  exact HQ.out
 ·have HB2:Hid (Below w.heap.size w w2):=zKO.out.trans (hb2.mono zKO.out.size)
  have HNo:=zA hno;have hs2:=HB2.out.size;have HM2:Hid (w2.heap[w1.heap.size]? = some (J8 iv cv rv G 0)):=(hb2.block _ lm).trans HM.out;have lm2:=zL HM2.out
  have HRg:Hid ((w2.alloc (.cells #[.slice none 0 0,.slice none 0 0] 132)).rangeAt w1.heap.size 0 (bP iv cv rv G).toList):=fun j v hv=>by
   have h8:(w2.alloc (.cells #[.slice none 0 0,.slice none 0 0] 132)).heap[w1.heap.size]? = some (J8 iv cv rv G 0):=zU HM2.out;unfold J8 lH at h8;have hj:j<(bP iv cv rv G).size:=by have:=(List.getElem?_eq_some_iff.1 hv).1;simpa using this
   rw[cq];refine(zB h8 j).trans ?_;rw[dj hj];rw[<-hv,dt]
  have HMz:=zA (fun (o1 o2:Obj)=>((HMm.out.below hb2).below (fj (j1 _) o1)).below (fj (j1 _) o2));clear hno hb2 HFe HMm HM HM2
  go_wp2_with (first
   | (refine wpList_load_mid ?zK9 127 (.tmp 22) ?ho w1.heap.size 0 ?hx (bP iv cv rv G).toList _ HRg.out Tryz.underlying127 rfl ?hi ?_
      case ho=>rfl
      case zK9=>rfl
      case hx=>rfl
      case hi=>rw[Array.length_toList];exact rZ zKS.out _ _ _)
   | (refine wpList_buildTo rfl 136 #[(0,.const (.bool true)),(1,.tmp 23)] rfl (some 24) rfl (Gz iv cv rv G) (by rw[Array.toList_map];exact VV iv cv rv G zKS.out) ?_))
  exact HSJ.out _ _ ((HB2.out.alloc hs2 _).alloc (by simp;omega) _) (.inl ⟨w2.heap.size+1,rfl,HBe.out _ _ (by rw[show w2.heap.size+1=(w2.alloc (.cells #[.slice none 0 0,.slice none 0 0] 132)).heap.size by simp];exact zG _ _) (HMz.out _ _),HNo.out⟩)
theorem oP{F:List zE}(h:vJ F):(yR F).map Prod.fst=zO F:=by
 rw[eY F h.heads h.nam];unfold X8;rw[List.map_map];refine List.ext_getElem (by simp) fun i h1 h2=>?_;simp only[List.getElem_map,List.getElem_range,Function.comp];rw[pe,p9 h2];rfl
theorem oQ{F:List zE}(h:vJ F):(yR F).length=(zO F).length:=by rw[<-oP h,pi]
theorem V9{i j:Nat}(hi:i<8)(hj:j<8):gY G (i:Int) (j:Int)=gA G i j:=by
 unfold gY;rw[tu (show (0:Int)<=(i:Int) by omega),tu (show (i:Int)<8 by omega),tu (show (0:Int)<=(j:Int) by omega),tu (show (j:Int)<8 by omega)];simp
theorem Vg(h:vJ ls){rs:List MX}(hr:rs.map Prod.fst=uD ((zR ls).map zP.name) ((yR ls).map Prod.fst) ls):rs.length=(fG ls).length/\∀i,i<(fG ls).length->(jC rs i).1=uX (uC ls) (zO ls) ((fG ls).getD i Yc):=by
 rw[oP h,rS]at hr;have hl:rs.length=(fG ls).length:=by have:=congrArg List.length hr;simpa using this
 refine⟨hl,fun i hi=>?_⟩;have h1:i<rs.length:=by omega
 have e1:(rs.map Prod.fst).getD i (uX [] [] Yc)=(jC rs i).1:=by simp[jC,List.getD,h1]
 rw[<-e1,hr];exact Xt _ _ _ _ _ hi
theorem zH9(h:vJ ls)(hg:∀x∈ls,fX x):D9 ls:=by
 refine⟨by have:=V0 h;omega,zDK h hg,fun r hr=>?_⟩;rw[oP h,rS]at hr;obtain⟨x,hx,rfl⟩:=p8.1 hr;obtain⟨h1,h2⟩:=mj.1 hx;rw[oQ h];exact zGY h h1 (cb h2) (hg x h1)
def Yq(F:List zE)(w w':World)(e:Ending):Prop:=∃rs:List MX,rs.map Prod.fst=uD ((zR F).map zP.name) ((yR F).map Prod.fst) F/\Below w.heap.size w w'/\((e=.returned (.tuple #[.slice none 0 0,.slice none 0 0,.int .i64 9])/\∀i j,¬Up (zR F) (yR F).length rs (Xs F) i j)\/(∃(i j:Nat) (f:Nat->Int) (g:Nat->Bool) (la sa:Option Addr) (sc:Nat),e=.returned (.tuple #[.slice la 2 2,.slice sa ((zR F).length+(yR F).length) sc,.int .i64 0])/\C0 (Up (zR F) (yR F).length rs (Xs F)) i j/\kS w' la [.string ⟨(jC rs i).1.label.toArray⟩,.string ⟨(jC rs j).1.label.toArray⟩]/\kS w' sa (tH (zR F) f (zR F).length++mM (yR F) g (yR F).length)/\fD (zR F) (yR F).length (eN (zR F) (yR F).length f g)/\qU (jC rs i).1 (eN (zR F) (yR F).length f g)=true/\qU (jC rs j).1 (eN (zR F) (yR F).length f g)=true))
theorem Kd(l:Bs)(w:World)(F:List zE)(hO:D9 F)(hR:Calls Tryz.prog 50 #[.string ⟨l.toArray⟩] w fun e w'=>lE F w w' e) :
 Calls Tryz.prog 29 #[.string ⟨l.toArray⟩] w fun e w'=>Yq F w w' e:=by
 have HR:=zA hR;clear hR;have zKS:=zA (Yl F);have HRN:Hid (∀w' e,lE F w w' e->∃iv cv rv rs,e=.returned (.agg (lH iv cv rv (Xs F) 0))/\rs.map Prod.fst=uD ((zR F).map zP.name) ((yR F).map Prod.fst) F/\mL w' iv cv rv (zR F) (yR F) rs/\Below w.heap.size w w'):=fun w' e h=>h
 have HFd:Hid (∀w' b rs iv cv rv,rs.map Prod.fst=uD ((zR F).map zP.name) ((yR F).map Prod.fst) F->w'.heap[b]? = some (J8 iv cv rv (Xs F) 0)->mL w' iv cv rv (zR F) (yR F) rs->Below w.heap.size w w'->Calls Tryz.prog 51 #[.pointer (some ⟨b,0,none⟩)] w' fun e w2=>((∃la sa sn sc,e=.returned (.agg #[.slice la 2 2,.slice sa sn sc])/\∀w3,Below w2.heap.size w2 w3->Yq F w w3 (.returned (.tuple #[.slice la 2 2,.slice sa sn sc,.int .i64 0])))\/(e=.returned (.agg #[.slice none 0 0,.slice none 0 0])/\∀w3,Below w2.heap.size w2 w3->Yq F w w3 (.returned (.tuple #[.slice none 0 0,.slice none 0 0,.int .i64 9]))))):=fun w' b rs iv cv rv h1 h2 h3 h4=>by
  refine(zAZ w' b 0 (zR F) (yR F) rs (Xs F) (Qm.made h2 (Yl F) h3 hO.few) hO.inp (fun x hx=>hO.rul x.1 ?_)).mono ?_
  ·rw[<-h1];exact List.mem_map_of_mem hx
  ·rintro e w2 ⟨hb,⟨i,j,f,g,la,sv,hfp,rfl,hl,⟨sa,sc,rfl,hs⟩,hrm,ha1,ha2⟩|⟨hn,rfl⟩⟩
   ·have hb2:=h4.trans (hb.mono h4.size)
    exact .inl ⟨la,sa,_,sc,rfl,fun w3 h3=>⟨rs,h1,hb2.trans (h3.mono hb2.size),.inr ⟨i,j,f,g,la,sa,sc,rfl,hfp,hl.below h3,hs.below h3,hrm,ha1,ha2⟩⟩⟩
   ·have hb2:=h4.trans (hb.mono h4.size)
    exact .inr ⟨rfl,fun w3 h3=>⟨rs,h1,hb2.trans (h3.mono hb2.size),.inl ⟨rfl,hn⟩⟩⟩
 clear hO;generalize Xs F=G at *;generalize Yq F w=Q at *
 go_enter Tryz.func29,Tryz.ntmps29
 go_wp2_with fail
 refine HR.out.mono ?_;rintro e w1 hri;obtain⟨iv,cv,rv,rs,rfl,hrs,hmc,hb⟩:=HRN.out _ _ hri;obtain⟨o1,o2,o3⟩:=hmc.one;have HB:=zA hb;have HMc:=zA hmc;have hs:=hb.size;have HFe:=zA (fun w' b=>HFd.out w' b rs iv cv rv hrs);clear hb HR hri hmc hrs HRN HFd;have zKN:Hid ((w1.alloc (.cells Tryz.zeroCells129 129)).heap[w1.heap.size]? = some (.cells Tryz.zeroCells129 129 (0,0))):=zG _ _;have HM:Hid (((w1.alloc (.cells Tryz.zeroCells129 129)).setRow w1.heap.size (lH iv cv rv G 0)).heap[w1.heap.size]? = some (J8 iv cv rv G 0)):=bi _ _ _ _ _ _ zKN.out;have c67:((w1.alloc (.cells Tryz.zeroCells129 129)).setRow w1.heap.size (lH iv cv rv G 0)).cell? ⟨w1.heap.size,67,none⟩=some (.int .i64 0):=by have h8:=HM.out;unfold J8 at h8;exact(zB h8 67).trans (J9 zKS.out 0)
 have HBm:Hid (Below w1.heap.size w1 ((w1.alloc (.cells Tryz.zeroCells129 129)).setRow w1.heap.size (lH iv cv rv G 0))):=yT (fj (j1 _) _) (j1 _) _
 go_wp2_with (refine wpList_store_row ?zK9 129 (.tmp 5) (.tmp 8) ?ho w1.heap.size (lH iv cv rv G 0) ?hx ?hy 129 Tryz.zeroCells129 zKN.out (aN zKS.out _ _ _ _) ?zKC (eW o1 o2 o3 _ _) ?_
              case ho=>rfl
              case zK9=>rfl
              case hx=>rfl
              case hy=>rfl
              case zKC=>rw[Yf,jO,jO,yY,zKS.out])
 have HMm:=zA (HMc.out.below HBm.out);have zKO:Hid (Below w.heap.size w ((w1.alloc (.cells Tryz.zeroCells129 129)).setRow w1.heap.size (lH iv cv rv G 0))):=HB.out.trans (HBm.out.mono hs);clear zKN c67 HBm HMc;generalize (w1.alloc (.cells Tryz.zeroCells129 129)).setRow w1.heap.size (lH iv cv rv G 0)=wM at *;refine(HFe.out wM w1.heap.size HM.out HMm.out zKO.out).mono ?_;rintro e w2 (⟨la,sa,sn,sc,rfl,hex⟩|⟨rfl,hno⟩)
 ·have HQ:=zA hex
  clear hex HFe HMm HM;go_wp2_with fail
  go_quiet (fail)
  go_wp2_with fail
  go_ret3
  exact HQ.out _ (xI (fj (j1 _) _) _)
 ·have HQ:=zA (hno _ ((tg w2.heap.size w2).alloc (j1 _) (.cells #[.slice none 0 0,.slice none 0 0] 132)))
  clear hno HFe HMm HM;go_wp2_with fail
  first|exact HQ.out|(go_ret3;exact HQ.out)
end Go.Proofs.YtnbpdffdnphbeabGreatDoor
