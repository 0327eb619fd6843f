import Derived.Test.YtnbpdffdnphbeabGreatDoorFGuard
namespace Go.Proofs.YtnbpdffdnphbeabGreatDoor
open Go.RowKit
variable{L:List (List Bs)}{ws:List Bs}{v:Value}{w' w:World}
def JG(w:World)(v:Value)(ws:List Bs):Prop:=∃a c,v=.slice a ws.length c/\xB w 9 a (xV ws)
def qT(w:World):List Value->List (List Bs)->Prop
 | [],[]=>True
 | v::vs,l::L=>JG w v l/\qT w vs L
 | _,_=>False
theorem JG.below(h:JG w v ws)(hb:Below w.heap.size w w'):JG w' v ws:=by
 obtain⟨a,c,e,p⟩:=h;exact⟨a,c,e,p.below hb⟩
theorem JG.grown{B n:Nat}{ov:Value}{ys:List Value}(h:JG w v ws)(zEA:w.ownsRow B 70 1 ov n ys)(hg:w.grownBy w' ov.ownBlock):JG w' v ws:=by
 obtain⟨a,c,e,p⟩:=h;exact⟨a,c,e,p.grown zEA (by decide) hg⟩
theorem qT.keep(hk:∀v ws,JG w v ws->JG w' v ws):∀(vs:List Value) (L:List (List Bs)),qT w vs L->qT w' vs L
 | [],[],_=>trivial
 | v::vs,l::L,h=>⟨hk v l h.1,qT.keep hk vs L h.2⟩
 | [],_::_,h=>absurd h id
 | _::_,[],h=>absurd h id
theorem qT.below{vs:List Value}(h:qT w vs L)(hb:Below w.heap.size w w'):qT w' vs L:=qT.keep (fun _ _ h=>h.below hb) vs L h
theorem qT.grown{vs:List Value}{B n:Nat}{ov:Value}{ys:List Value}(h:qT w vs L)(zEA:w.ownsRow B 70 1 ov n ys)(hg:w.grownBy w' ov.ownBlock):qT w' vs L:=qT.keep (fun _ _ h=>h.grown zEA hg) vs L h
theorem qT.snoc{l:List Bs}(hv:JG w v l):∀ {vs:List Value} {L:List (List Bs)},qT w vs L->qT w (vs++[v]) (L++[l])
 | [],[],_=>⟨hv,trivial⟩
 | _::_,_::_,h=>⟨h.1,qT.snoc hv h.2⟩
 | [],_::_,h=>absurd h id
 | _::_,[],h=>absurd h id
theorem qT.len:∀ {vs:List Value} {L:List (List Bs)},qT w vs L->vs.length=L.length
 | [],[],_=>rfl
 | _::_,_::_,h=>by rw[ty,ty,qT.len h.2]
 | [],_::_,h=>absurd h id
 | _::_,[],h=>absurd h id
def vA(vs:List Value)(i:Nat):Value:=vs.getD i (.slice none 0 0)
theorem qT.get:∀ {vs:List Value} {L:List (List Bs)},qT w vs L->∀i,i<L.length->vs[i]? = some (vA vs i)/\JG w (vA vs i) (L.getD i [])
 | [],[],_,i,hi=>absurd hi (by simp)
 | _::_,_::_,h,0,_=>⟨rfl,h.1⟩
 | _::vs,_::L,h,i+1,hi=>qT.get (vs:=vs) (L:=L) h.2 i (by simpa using hi)
 | [],_::_,h,_,_=>absurd h id
 | _::_,[],h,_,_=>absurd h id
def VA(w:World)(a:Option Addr)(L:List (List Bs)):Prop:=∃vs,xB w 70 a vs/\qT w vs L
theorem VA.below{a:Option Addr}(h:VA w a L)(hb:Below w.heap.size w w'):VA w' a L:=by
 obtain⟨vs,h1,h2⟩:=h;exact⟨vs,h1.below hb,h2.below hb⟩
theorem VA.line{a:Option Addr}(h:VA w a L)(i:Nat)(hi:i<L.length):∃g la lc,a=some ⟨g,0,none⟩/\w.cell? ⟨g,i,none⟩=some (.slice la (L.getD i []).length lc)/\∀k,k<(L.getD i []).length->∃gl,la=some ⟨gl,0,none⟩/\w.cell? ⟨gl,k,none⟩=some (.string ⟨((L.getD i []).getD k []).toArray⟩):=by
 obtain⟨vs,h1,h2⟩:=h;obtain⟨e1,la,lc,e2,h3⟩:=h2.get i hi;obtain⟨g,e3,h4⟩:=h1.cel.at e1;rw[e2]at h4;exact⟨g,la,lc,e3,h4,fun k hk=>h3.cel.at (wP _ k hk)⟩
def C2(ws:List Bs):Nat->Bs
 | 0=>[]
 | k+1=>(if 0<k/\ws.getD k []≠[59] then C2 ws k++[32] else C2 ws k)++ws.getD k []
def GY:List Bs->Bs
 | []=>[]
 | w::r=>(if w=[59] then w else 32::w)++GY r
theorem C7(l:List Bs)(w:Bs):GY (l++[w])=GY l++(if w=[59] then w else 32::w):=by
 induction l with
 | nil=>simp[GY]
 | cons x r ih=>rw[l9,GY,ih,GY,pd]
theorem zCV(l:List Bs):UH l=GY l++[10]:=by
 induction l with
 | nil=>rfl
 | cons x r ih=>rw[UH,GY,ih,pd]
theorem DV(w:Bs)(r:List Bs):∀k,k<=r.length->C2 (w::r) (k+1)=w++GY (r.take k):=by
 intro k
 induction k with
 | zero=>intro _;simp[C2,GY]
 | succ k ih =>
   intro hk;have e:(w::r).getD (k+1) []=r.getD k []:=rfl
   have et:r.take (k+1)=r.take k++[r.getD k []]:=by
    rw[List.take_add_one];simp[List.getD,show k<r.length by omega]
   rw[C2,e,ih (by omega),et,C7];by_cases h:r.getD k []=[59]
   ·rw[t7 (fun q=>q.2 h),tg h];simp
   ·rw[tg ⟨by omega,h⟩,t7 h];simp
theorem u9(ws:List Bs):C2 ws ws.length++[10]=pF ws:=by
 cases ws with
 | nil=>rfl
 | cons w r=>rw[ty,DV w r _ (j1 _),bm,pF,zCV,pd]
theorem Qd(L:List (List Bs))(i:Nat)(hi:i<L.length):sR (L.take (i+1))=sR (L.take i)++pF (L.getD i []):=by
 unfold sR;rw[List.take_add_one,bh];simp[List.getD,hi]
def gT(w:World):Prop:=zCT w/\∃g,Tryz.prog.globalNamed "internal/strconv.uint64pow10" = some g/\g<w.heap.size
theorem gT.below(h:gT w)(hb:Below w.heap.size w w'):gT w':=by
 obtain⟨h1,g,h2,h3⟩:=h;exact⟨h1.below ⟨g,h2,h3⟩ hb,g,h2,t8 h3 hb.size⟩
theorem sH(w:World)(n:Int)(h0:0<=n)(h1:n<=9999)(hT:gT w):Calls Tryz.prog 45 #[.int .i64 n] w fun e w'=>e=.returned (.string ⟨(Lib.itoa n).toArray⟩)/\Below w.heap.size w w':=by
 refine(Tryz.strconv_Itoa_laid n (by omega) (by omega) w hT.1).mono ?_;rintro e w' ⟨rfl,k,os,rfl⟩;exact⟨rfl,(KT.growN k os (j1 _)).below⟩
def nC(k:Nat):Bs:=([[60],[60,61],[61],[33,61],[62,61],[62]]:List Bs).getD k []
theorem Uz(w:World)(k:Nat)(hk:k<6):Calls Tryz.prog 135 #[.int .i64 (k:Int)] w fun e w'=>e=.returned (.string ⟨(nC k).toArray⟩)/\Below w.heap.size w w':=by
 have HB:Hid (∀o,Below w.heap.size w (w.alloc o)):=fun o=>da (j1 _) o;have hc:k=0\/k=1\/k=2\/k=3\/k=4\/k=5:=by omega
 rcases hc with rfl|rfl|rfl|rfl|rfl|rfl
 all_goals
  go_enter Tryz.func135,Tryz.ntmps135
  go_wp2_with fail
  go_ret
  exact⟨rfl,HB.out _⟩
def uD(t:zX):List Bs :=
 if t.kind=0 then [rW] else if t.kind=1 then [yG t.x.toNat] else if t.kind=2 then [nY,xG 99 t.x.toNat] else
 if t.kind=3 then [yG t.x.toNat,nC t.mark.toNat,Lib.itoa t.n] else [yG t.x.toNat,nC t.mark.toNat,yG t.y.toNat]
def yZ(t:zX)(lo:Bool):List Bs:=(if t.not=true then [[110,111,116]] else [])++(if (lo&&t.pair)=true then [[40]] else [])++uD t++(if (lo&&t.pair)=true then [[41]] else [])
structure Qa(w wx:World)(bo:Obj)(v:Value)(ws:List Bs):Prop where
 box:wx.heap[w.heap.size]? = some bo
 own:wx.ownsRow (w.heap.size+1) 9 1 v ws.length (xV ws)
 bel:Below w.heap.size w wx
theorem Qa.below{wx:World}{bo:Obj}(h:Qa w wx bo v ws)(hb:Below wx.heap.size wx w'):Qa w w' bo v ws:=⟨(hb.block _ (zL h.box)).trans h.box,qJ h.own hb,h.bel.trans (hb.mono h.bel.size)⟩
theorem Qa.app{wx wz w9:World}{bo:Obj}{v9:Value}{ns:List Bs}(h:Qa w wx bo v ws)(hz:Below wx.heap.size wx wz)(hg:wz.grownBy w9 v.ownBlock)(zEA:w9.ownsRow (w.heap.size+1) 9 1 v9 (ws.length+ns.length) (xV ws++xV ns)):Qa w w9 bo v9 (ws++ns):=by
 have hZ:=h.below hz;have hb:Below (w.heap.size+1) wz w9:=(t9 _ wz).grown hg (zL hZ.box) (zU hZ.own);refine⟨(hb.block _ (mq _)).trans hZ.box,?_,hZ.bel.trans (hb.mono (my _))⟩;rw[tb];have e:xV (ws++ns)=xV ws++xV ns:=by unfold xV;rw[lj]
 rw[e];exact zEA
end Go.Proofs.YtnbpdffdnphbeabGreatDoor
