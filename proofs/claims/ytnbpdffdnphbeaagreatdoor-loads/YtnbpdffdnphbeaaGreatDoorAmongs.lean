import Derived.Test.YtnbpdffdnphbeaaGreatDoorPtok
set_option maxHeartbeats 1000000
namespace Go.Proofs.YtnbpdffdnphbeaaGreatDoor
variable{xs:List Value}{n size B:Nat}{e:TypeId}{v:Value}(l:Bs)(w:World)(s:Bs)
def fZ(l:Bs):Nat->Nat->Nat->List Bs
 | 0,_,_=>[]
 | n+1,a,i=>if i=l.length\/l.getD i 0=32 then (l.drop a).take (i-a)::fZ l n (i+1) (i+1) else fZ l n a (i+1)
theorem yg(n:Nat):∀a i,KH l s n a i=decide (s∈fZ l n a i):=by
 induction n with
 | zero=>intro a i;simp[KH,fZ]
 | succ n ih =>
   intro a i;rw[KH,fZ];split
   ·rw[ih]
    split
    ·rename_i h;simp[h]
    ·rename_i h
     have h2:¬s=(l.drop a).take (i-a):=fun e=>h e.symm;simp[h2]
   ·exact ih _ _
theorem aS:xZ l s=decide (s∈fZ l (l.length+1) 0 0):=yg l s _ 0 0
theorem Fr:fZ lH (lH.length+1) 0 0=[[46,46],[60,61],[33,61],[62,61]]:=by decide
theorem UZ:fZ pM (pM.length+1) 0 0=DK:=by decide
theorem KY:fZ bE (bE.length+1) 0 0=VA:=by decide
theorem CT:xZ pM s=qC s:=by
 rw[aS,UZ,qC,<-List.elem_eq_contains,List.elem_eq_mem]
theorem UD:xZ bE s=vE s:=by
 rw[aS,KY,vE,<-List.elem_eq_contains,List.elem_eq_mem]
theorem ye(h:s.length=2):xZ lH s=vE s:=by
 rw[aS,Fr,vE,<-List.elem_eq_contains,List.elem_eq_mem];congr 1
 simp only[VA,pi,ld,dn,eq_iff_iff];constructor
 ·rintro(rfl|rfl|rfl|rfl) <;> decide
 ·rintro(rfl|rfl|rfl|rfl|rfl|rfl|rfl|rfl|rfl|rfl|rfl|rfl|rfl|rfl) <;> first|(exfalso;revert h;decide)|decide
open Go.RowKit
theorem ky(p:Nat)(w:World)(hl:l.length<=4000)(hp:p<l.length)(hk:so (l.getD p 0)=0) :
 Calls Tryz.prog 210 #[.string ⟨l.toArray⟩,.int .i64 p] w fun e w'=>e=.returned (qM (vS ((l.drop p).take (vZ (l.drop p)))) ((l.drop p).take (vZ (l.drop p))) (pX ((l.drop p).take (vZ (l.drop p)))) p)/\Below w.heap.size w w':=by
 have hh:∀n,1<=n->so (((l.drop p).take n).getD 0 0)=0:=by
  intro n hn1;simp only[List.getD,bv,List.getElem?_drop,pq];rw[tj (by omega)];exact hk
 have hpk:∀n,1<=n->vS ((l.drop p).take n)=if vE ((l.drop p).take n)=true then 4 else 1:=by
  intro n hn;unfold vS;rw[tg (by rw[hh n hn];decide),tg (by rw[hh n hn];decide)]
 have hpv:∀n,1<=n->pX ((l.drop p).take n)=0:=by
  intro n hn;unfold pX;rw[tg];rw[hpk n hn];split <;> decide
 have zIH:vZ (l.drop p)=if Vb (l.drop p)=true then 2 else 1:=by unfold vZ;rw[bX,pq,tj hk]
 have htwo:Vb (l.drop p)=(decide (p+2<=l.length)&&vE ((l.drop p).take 2)):=by
  unfold Vb;by_cases h2:p+2<=l.length
  ·rw[ye _ (by rw[p9,ty];omega)];congr 1;simp;omega
  ·have:¬ 1<(l.drop p).length:=by rw[ty];omega
   simp[h2];intro;omega
 obtain⟨t2,ht2⟩:∃t,(l.drop p).take 2=t:=⟨_,rfl⟩;obtain⟨t1,ht1⟩:∃t,(l.drop p).take 1=t:=⟨_,rfl⟩;have hx2:(ByteArray.mk l.toArray).extract p (p+2)=⟨t2.toArray⟩:=by rw[ByteArray.extract_mk,<-ht2,show p+2-p=2 by omega]
 have hx1:(ByteArray.mk l.toArray).extract p (p+1)=⟨t1.toArray⟩:=by rw[ByteArray.extract_mk,<-ht1,show p+1-p=1 by omega]
 have one:vE t1=true\/vE t1=false:=by cases vE t1 <;> simp
 by_cases h2:p+2<=l.length
 ·cases hm2:vE t2
  ·have hl1:vZ (l.drop p)=1:=by rw[zIH,htwo,ht2,hm2];simp
   rw[hl1,hpv 1 (by omega),hpk 1 (by omega),ht1];have HM2:=zA hm2;clear hh hpk hpv zIH htwo ht2 ht1 hl1 hm2 hk;rcases one with hm1|hm1
   ·rw[hm1];have HM1:=zA hm1;clear hm1
    go_enter Tryz.func210,Tryz.ntmps210
    go_wp2_with fail
    refine(bT t2 false HM2.out _).mono ?_;rintro e w' ⟨rfl,hw⟩;obtain rfl:=hw.symm;go_wp2_with fail
    refine(bT t1 true HM1.out _).mono ?_;rintro e w' ⟨rfl,hw⟩;obtain rfl:=hw.symm;go_wp2_with fail
    refine ph (v:=qM 4 t1 0 p) (by simp[results,Tryz.results210,go_sem,qM]) rfl ⟨rfl,?_⟩;exact gj (t9 _) _
   ·rw[hm1];have HM1:=zA hm1;clear hm1
    go_enter Tryz.func210,Tryz.ntmps210
    go_wp2_with fail
    refine(bT t2 false HM2.out _).mono ?_;rintro e w' ⟨rfl,hw⟩;obtain rfl:=hw.symm;go_wp2_with fail
    refine(bT t1 false HM1.out _).mono ?_;rintro e w' ⟨rfl,hw⟩;obtain rfl:=hw.symm;go_wp2_with fail
    refine ph (v:=qM 1 t1 0 p) (by simp[results,Tryz.results210,go_sem,qM]) rfl ⟨rfl,?_⟩;exact gj (t9 _) _
  ·have hl1:vZ (l.drop p)=2:=by rw[zIH,htwo,ht2,hm2];simp[h2]
   rw[hl1,hpv 2 (by omega),hpk 2 (by omega),ht2,hm2];have HM2:=zA hm2;clear hh hpk hpv zIH htwo ht2 ht1 hl1 hm2 hk one
   go_enter Tryz.func210,Tryz.ntmps210
   go_wp2_with fail
   refine(bT t2 true HM2.out _).mono ?_;rintro e w' ⟨rfl,hw⟩;obtain rfl:=hw.symm;go_wp2_with fail
   refine ph (v:=qM 4 t2 0 p) (by simp[results,Tryz.results210,go_sem,qM]) rfl ⟨rfl,?_⟩;exact gj (t9 _) _
 ·have hl1:vZ (l.drop p)=1:=by rw[zIH,htwo];simp[h2]
  rw[hl1,hpv 1 (by omega),hpk 1 (by omega),ht1];clear hh hpk hpv zIH htwo ht2 ht1 hl1 hk hx2;rcases one with hm1|hm1
  ·rw[hm1];have HM1:=zA hm1;clear hm1
   go_enter Tryz.func210,Tryz.ntmps210
   go_wp2_with fail
   refine(bT t1 true HM1.out _).mono ?_;rintro e w' ⟨rfl,hw⟩;obtain rfl:=hw.symm;go_wp2_with fail
   refine ph (v:=qM 4 t1 0 p) (by simp[results,Tryz.results210,go_sem,qM]) rfl ⟨rfl,?_⟩;exact gj (t9 _) _
  ·rw[hm1];have HM1:=zA hm1;clear hm1
   go_enter Tryz.func210,Tryz.ntmps210
   go_wp2_with fail
   refine(bT t1 false HM1.out _).mono ?_;rintro e w' ⟨rfl,hw⟩;obtain rfl:=hw.symm;go_wp2_with fail
   refine ph (v:=qM 1 t1 0 p) (by simp[results,Tryz.results210,go_sem,qM]) rfl ⟨rfl,?_⟩;exact gj (t9 _) _
theorem zB4{W w1:World}(hb:Below W.heap.size W w1):(∀b o,b<W.heap.size->w1.cell? ⟨b,o,none⟩=W.cell? ⟨b,o,none⟩)/\(∀b o,b<W.heap.size->w1.frozen? ⟨b,o,none⟩=W.frozen? ⟨b,o,none⟩) :=
 ⟨fun b o h=>hb.cell (p:=⟨b,o,none⟩) h,fun b o h=>hb.frozen (p:=⟨b,o,none⟩) h⟩
theorem ub(c:UInt8):so c=0\/so c=1\/so c=2\/so c=3:=by
 unfold so tS;split <;> (try split) <;> (try split) <;> simp
theorem Vc(p:Nat)(w:World)(hl:l.length<=4000)(hp:p<l.length)(hk:¬so (l.getD p 0)=3) :
 Calls Tryz.prog 147 #[.string ⟨l.toArray⟩,.int .i64 p] w fun e w'=>e=.returned (qM (vS ((l.drop p).take (vZ (l.drop p)))) ((l.drop p).take (vZ (l.drop p))) (pX ((l.drop p).take (vZ (l.drop p)))) p)/\Below w.heap.size w w':=by
 have hw:=fun w h=>xw l p w hl hp h;have hnu:=fun w h=>BY l p w hl hp h;have hm:=fun w h=>ky l p w hl hp h;generalize (l.drop p).take (vZ (l.drop p))=t at *;generalize vS t=k at *;generalize pX t=v at *;have HL:=zA (fun b=>ZV (l:=l) (b:=b) (i:=p));have HD:=zA (fun b=>Qk (l:=l) (b:=b) (i:=p));rcases ub (l.getD p 0) with h|h|h|h
 ·have HM:=zA (fun w=>hm w h)
  have h1:=HL.out false (by rw[h];rfl);have h2:=HD.out false (by rw[h];rfl);have H1:=zA h1;have H2:=zA h2;clear hw hnu hm HL HD h hk h1 h2
  go_enter Tryz.func147,Tryz.ntmps147
  go_wp2_with fail
  refine(tY _ false (H1.out _) _).mono ?_;rintro e w' ⟨rfl,hw⟩;obtain rfl:=hw.symm;go_wp2_with fail
  refine(mQ _ false (H2.out _) _).mono ?_;rintro e w' ⟨rfl,hw⟩;obtain rfl:=hw.symm;go_wp2_with fail
  refine(HM.out _).mono ?_;rintro e w2 ⟨rfl,hb⟩;obtain⟨hc,hf⟩:=zB4 hb;have HB:=zA hb;clear hb;unfold qM;go_wp2_with fail
  refine ph (v:=qM k t v p) (by simp[results,Tryz.results147,go_sem,qM,hc]) rfl ⟨rfl,?_⟩;exact((((((gj (t9 _) _).trans (HB.out.mono (by simp))).setCell (t9 _) _).setCell (t9 _) _).setCell (t9 _) _).setCell (t9 _) _)
 ·have HM:=zA (fun w=>hw w h)
  have h1:=HL.out true (by rw[h];rfl);have h2:=HD.out false (by rw[h];rfl);have H1:=zA h1;clear hw hnu hm HL HD h hk h1 h2
  go_enter Tryz.func147,Tryz.ntmps147
  go_wp2_with fail
  refine(tY _ true (H1.out _) _).mono ?_;rintro e w' ⟨rfl,hw⟩;obtain rfl:=hw.symm;go_wp2_with fail
  refine(HM.out _).mono ?_;rintro e w2 ⟨rfl,hb⟩;obtain⟨hc,hf⟩:=zB4 hb;have HB:=zA hb;clear hb;unfold qM;go_wp2_with fail
  refine ph (v:=qM k t v p) (by simp[results,Tryz.results147,go_sem,qM,hc]) rfl ⟨rfl,?_⟩;exact((((((gj (t9 _) _).trans (HB.out.mono (by simp))).setCell (t9 _) _).setCell (t9 _) _).setCell (t9 _) _).setCell (t9 _) _)
 ·have HM:=zA (fun w=>hnu w h)
  have h1:=HL.out false (by rw[h];rfl);have h2:=HD.out true (by rw[h];rfl);have H1:=zA h1;have H2:=zA h2;clear hw hnu hm HL HD h hk h1 h2
  go_enter Tryz.func147,Tryz.ntmps147
  go_wp2_with fail
  refine(tY _ false (H1.out _) _).mono ?_;rintro e w' ⟨rfl,hw⟩;obtain rfl:=hw.symm;go_wp2_with fail
  refine(mQ _ true (H2.out _) _).mono ?_;rintro e w' ⟨rfl,hw⟩;obtain rfl:=hw.symm;go_wp2_with fail
  refine(HM.out _).mono ?_;rintro e w2 ⟨rfl,hb⟩;obtain⟨hc,hf⟩:=zB4 hb;have HB:=zA hb;clear hb;unfold qM;go_wp2_with fail
  refine ph (v:=qM k t v p) (by simp[results,Tryz.results147,go_sem,qM,hc]) rfl ⟨rfl,?_⟩;exact((((((gj (t9 _) _).trans (HB.out.mono (by simp))).setCell (t9 _) _).setCell (t9 _) _).setCell (t9 _) _).setCell (t9 _) _)
 ·exact absurd h hk
theorem XQ(c:Int)(b:Bool)(h:sO c=b)(w:World) :
 Calls Tryz.prog 146 #[.int .u8 c] w fun e w'=>e=.returned (.bool b)/\w'=w:=by subst h;exact VX c w
theorem zB1(c:UInt8):sO (c.toNat:Int)=decide (so c=3):=by
 unfold sO so tS;by_cases h:(c.toNat:Int)=32\/(c.toNat:Int)=10
 ·rw[tg (by omega),tg (by omega),tj h];simpa using h
 ·rw[tg h]
  have:¬(if (97:Int)<=c.toNat/\(c.toNat:Int)<=122 then (1:Int) else if (48:Int)<=c.toNat/\(c.toNat:Int)<=57 then 2 else 0)=3:=by split <;> (try split) <;> decide
  simp only[this,du,lj,fd];omega
theorem UA{l:Bs}{b:Bool}{i:Nat}(h:decide (so (l.getD i 0)=3)=b):∀h:i<(ByteArray.mk l.toArray).size,sO (((ByteArray.mk l.toArray)[i]'h).toNat:Int)=b:=by
 intro h0;rw[oF,zB1,h]
theorem BT{w w':World}(h:w.ownsRow B e size v n xs)(hb:Below w.heap.size w w'):w'.ownsRow B e size v n xs:=by
 refine⟨h.1,?_⟩;rcases h.2 with h1|⟨g,cap,yV,h1,h2,h3,r⟩
 ·exact .inl h1
 ·refine .inr ⟨g,cap,yV,h1,h2,?_,r⟩
  have hg:g<w.heap.size:=by
   rcases po g w.heap.size with h|h
   ·exact h
   ·rw[pj h]at h3;cases h3
  rw[hb.block g hg];exact h3
theorem zA2:(Tryz.prog.info? 237).map (fun i=>(i.zero,i.size,i.bytes))=some (some (.agg #[.int .i64 0,.string ⟨#[]⟩,.int .i64 0,.int .i64 0]),4,40):=by kernel_rfl
theorem zP{w:World}(zID:w.ownsRow B e size v n xs):∀k,v.ownBlock=some k->B<=k/\k<w.heap.size:=by
 intro k hk;rcases zID.2 with ⟨h1,_⟩|⟨g,cap,yV,h1,h2,h3,_⟩
 ·rw[h1]at hk;simp[Value.ownBlock]at hk
 ·rw[h1]at hk;simp[Value.ownBlock]at hk
  subst hk;refine⟨h2,?_⟩;rcases po g w.heap.size with h|h
  ·exact h
  ·rw[pj h]at h3;cases h3
theorem uO(cs:Array Value)(T:TypeId)(l:List Value)(h:cs.toList=l){H:Nat}(hH:w.heap.size=H) :
 ∀j u,l[j]? = some u->(w.alloc (.cells cs T)).cell? ((⟨H,0,none⟩:Addr).add j)=some u:=by
 subst hH;exact zZ w cs T l h
theorem Q9{w:World}(zID:w.ownsRow B e size v n xs):∀k,v.ownBlock=some k->B<=k :=
 fun k hk=>(zP zID k hk).1
theorem zBB(hl:l.length<=4000) :
 Calls Tryz.prog 100 #[.string ⟨l.toArray⟩] w fun e w'=>∃v,e=.returned v/\w'.ownsRow w.heap.size 237 4 v ((yR l 0).length+1) (Yu (yR l 0)++KA l.length)/\Below w.heap.size w w':=by
 obtain⟨i0,hi0,hz0,hz1,hz2⟩:=dp zA2;obtain⟨B,hB⟩:∃B,B=w.heap.size:=⟨_,rfl⟩;have HB:Hid (B=w.heap.size):=hB;rw[<-hB];clear hB
 go_enter Tryz.func100,Tryz.ntmps100
 go_wp2_with fail
 have h0:(w.alloc (.cells #[] 237)).ownsRow B 237 4 (.slice (some ⟨w.heap.size,0,none⟩) 0 0) 0 (Yu []) :=
  ⟨rfl,.inr ⟨w.heap.size,0,#[],rfl,by rw[HB.out];exact t9 _,heap_alloc_new w _,t9 _,by simp[maxLen],rfl,rfl⟩⟩
 have hb0:Below B w (w.alloc (.cells #[] 237)):=gj (by rw[HB.out];exact t9 _) _;have H0:=zA h0;have HB0:=zA hb0;clear h0 hb0
 go_loopw [3,4] (fun lv av wr=>∃(p:Nat) (ts:zG),p<=l.length/\av=.int .i64 p/\wr.ownsRow B 237 4 lv ts.length (Yu ts)/\Below B w wr/\Hid (ts++yR l p=yR l 0)) (fun _ av _=>l.length-(intOf av).toNat)
 case atStart=>exact⟨0,[],tr _,rfl,H0.out,HB0.out,rfl⟩
 case round =>
  obtain⟨p,ts,hp,rfl,zID,zIX,hH⟩:=hrel;clear H0 HB0;have zJB:B<=wr.heap.size:=by have h5:=zIX.size;have h6:=HB.out;omega
  have hts0:ts.length<=4000:=by
   have h1:=congrArg List.length hH.out;have h2:=kW l 0;simp only[tq]at h1;omega
  by_cases zIB:p<l.length
  ·by_cases hk:so (l.getD p 0)=3
   ·have HF:Hid (ts++yR l (p+1)=yR l 0):=by have:=hH.out;rw[nT zIB hk]at this;exact this
    have HQ:=zA (UA (b:=true) (by rw[hk];rfl):∀h:p<(ByteArray.mk l.toArray).size,sO (((ByteArray.mk l.toArray)[p]'h).toNat:Int)=true);clear hk hH
    go_wp2_with (go_at_call 146;refine(XQ _ true (HQ.out _) _).mono ?_;rintro e w' ⟨rfl,hw⟩;obtain rfl:=hw.symm)
    go_roundw
    case rel=>exact⟨p+1,ts,by omega,by go_num,zID,zIX,HF.out⟩
    case measure=>simp[intOf];omega
   ·have HQ:=zA (UA (b:=false) (by simp only[hk,du]):∀h:p<(ByteArray.mk l.toArray).size,sO (((ByteArray.mk l.toArray)[p]'h).toNat:Int)=false)
    have HTk:=zA (fun w=>Vc l p w hl zIB hk);have hF:=hH.out;rw[Xe zIB hk]at hF;have hn1:=nB (l.drop p);have hn2:=Ky (l:=l.drop p) (by rw[ty];omega);rw[ty]at hn2;have htl:((l.drop p).take (vZ (l.drop p))).length=vZ (l.drop p):=by rw[p9,ty];omega
    generalize (l.drop p).take (vZ (l.drop p))=t at *;generalize vZ (l.drop p)=n at *;have HF:Hid ((ts++[(p,t)])++yR l (p+n)=yR l 0):=by rw[Hid,mq];exact hF
    have hpt:zCJ (p,t)=[.int .i64 (vS t),.string ⟨t.toArray⟩,.int .i64 (pX t),.int .i64 p]:=rfl;generalize hkk:vS t=k at *;generalize hvv:pX t=v at *;have HPT:=zA hpt;clear hk hH hF hkk hvv hpt;subst htl;go_wp2_with fail
    refine(XQ _ false (HQ.out _) _).mono ?_;rintro e w' ⟨rfl,hw⟩;obtain rfl:=hw.symm;go_wp2_with fail
    refine(HTk.out _).mono ?_;rintro e w2 ⟨rfl,hb2⟩;have zIG:=BT zID hb2;have hbel2:=zIX.trans (hb2.mono zJB);have HG:=zA (zP zID);have hsz2:=hb2.size;clear zID zIX hb2 HQ HTk;unfold qM
    go_wp2_with (at_builtin;refine wpList_append_own _ rfl _ _ 225 rfl B 237 i0 _ 4 40 Tryz.underlying225 hi0 hz0 hz1 hz2 rfl (by decide) _ _ _ rfl ((zIG.alloc _).alloc _) ⟨w2.heap.size+1,0,none⟩ 1 1 (zCJ (p,t)) rfl rfl ?c1 ?c2 ?c3 ?c4 ?c5 ?_)
    case c1=>rw[HPT.out];exact uO _ _ _ _ rfl (by simp)
    case c2=>rw[HPT.out];intro u hu;simp at hu;rcases hu with rfl|rfl|rfl|rfl <;> rfl
    case c3=>unfold maxLen;omega
    case c4=>omega
    case c5=>simp;omega
    intro v' w3 zII zIC _
    have zIW:w3.cell? ⟨w2.heap.size,1,none⟩=some (.string ⟨t.toArray⟩):=by
     rw[zIC.cell_far ⟨w2.heap.size,1,none⟩ (by simp;omega) (by
      intro h;have h2:=(HG.out w2.heap.size h.symm).2;omega)]
     simp[World.cell?_alloc_past]
    have hbel3:Below B w w3:=((hbel2.alloc (by omega) _).alloc (by simp;omega) _).grown zIC (by simp;omega) (fun k hk=>(HG.out k hk).1);clear zIG hbel2 zIC HG
    go_wp2
    go_roundw
    case rel=>exact⟨p+t.length,ts++[(p,t)],by omega,by go_num,by rw[CC];simpa using zII,hbel3,HF.out⟩
    case measure=>simp[intOf];omega
  ·have HF:Hid (ts=yR l 0):=by have:=hH.out;rw[Xf zIB,ce]at this;exact this
   clear hH
   go_wp2_with (at_builtin;refine wpList_append_own _ rfl _ _ 225 rfl B 237 i0 _ 4 40 Tryz.underlying225 hi0 hz0 hz1 hz2 rfl (by decide) _ _ _ rfl (zID.alloc _) ⟨wr.heap.size,0,none⟩ 1 1 (KA l.length) rfl rfl ?c1 ?c2 ?c3 ?c4 ?c5 ?_)
   case c1=>exact zZ _ _ _ _ rfl
   case c2=>intro u hu;simp[KA]at hu;rcases hu with rfl|rfl|rfl|rfl <;> rfl
   case c3=>unfold maxLen;omega
   case c4=>omega
   case c5=>simp;omega
   intro v' w3 zII zIC _;have hbel3:Below B w w3:=(zIX.alloc zJB _).grown zIC (by simp;omega) (Q9 zID);clear zID zIX zIC
   go_wp2
   go_ret
   exact⟨_,rfl,by rw[<-HF.out];exact zII,hbel3⟩
end Go.Proofs.YtnbpdffdnphbeaaGreatDoor
