import Derived.Test.YtnbpdffdnphbeabGreatDoorFGuard
open Go.Proofs.Tryz
namespace Go.Proofs.YtnbpdffdnphbeabGreatDoor
open Go.RowKit
variable{L:List (List Bs)}{ws:List Bs}{v:Value}{w w':World}
def BX(w:World)(v:Value)(ws:List Bs):Prop:=∃a c,v=.slice a ws.length c/\xX w 9 a (xG ws)
def pB(w:World):List Value->List (List Bs)->Prop
 | [],[]=>True
 | v::vs,l::L=>BX w v l/\pB w vs L
 | _,_=>False
theorem BX.below(h:BX w v ws)(hb:Below w.heap.size w w'):BX w' v ws:=by
 obtain⟨a,c,e,p⟩:=h;exact⟨a,c,e,p.below hb⟩
theorem BX.grown{B n:Nat}{ov:Value}{ys:List Value}(h:BX w v ws)(aA:w.ownsRow B 70 1 ov n ys)(hg:w.grownBy w' ov.ownBlock):BX w' v ws:=by
 obtain⟨a,c,e,p⟩:=h;exact⟨a,c,e,p.grown aA (by decide) hg⟩
theorem pB.keep(hk:∀v ws,BX w v ws->BX w' v ws):∀(vs:List Value) (L:List (List Bs)),pB w vs L->pB w' vs L
 | [],[],_=>trivial
 | v::vs,l::L,h=>⟨hk v l h.1,pB.keep hk vs L h.2⟩
 | [],_::_,h=>x' h id
 | _::_,[],h=>x' h id
theorem pB.below{vs:List Value}(h:pB w vs L)(hb:Below w.heap.size w w'):pB w' vs L:=pB.keep (λ_ _ h=>h.below hb) vs L h
theorem pB.grown{vs:List Value}{B n:Nat}{ov:Value}{ys:List Value}(h:pB w vs L)(aA:w.ownsRow B 70 1 ov n ys)(hg:w.grownBy w' ov.ownBlock):pB w' vs L:=pB.keep (λ_ _ h=>h.grown aA hg) vs L h
theorem pB.snoc{l:List Bs}(hv:BX w v l):∀ {vs:List Value} {L:List (List Bs)},pB w vs L->pB w (vs++[v]) (L++[l])
 | [],[],_=>⟨hv,trivial⟩
 | _::_,_::_,h=>⟨h.1,pB.snoc hv h.2⟩
 | [],_::_,h=>x' h id
 | _::_,[],h=>x' h id
def vA(vs:List Value)(i:Nat):Value:=vs.getD i (.slice none 0 0)
theorem pB.get:∀ {vs:List Value} {L:List (List Bs)},pB w vs L->∀i,i<L.length->vs[i]? = some (vA vs i)/\BX w (vA vs i) (L.getD i [])
 | [],[],_,i,hi=>x' hi (by simp)
 | _::_,_::_,h,0,_=>⟨rfl,h.1⟩
 | _::vs,_::L,h,i+1,hi=>pB.get (vs:=vs) (L:=L) h.2 i (by simpa using hi)
 | [],_::_,h,_,_=>x' h id
 | _::_,[],h,_,_=>x' h id
def EI(w:World)(a:Option Addr)(L:List (List Bs)):Prop:=∃vs,xX w 70 a vs/\pB w vs L
theorem EI.line{a:Option Addr}(h:EI w a L)(i:Nat)(hi:i<L.length):∃g la lc,a=some ⟨g,0,none⟩/\w.cell? ⟨g,i,none⟩=some (.slice la (L.getD i []).length lc)/\∀k,k<(L.getD i []).length->∃gl,la=some ⟨gl,0,none⟩/\w.cell? ⟨gl,k,none⟩=some (.string ⟨((L.getD i []).getD k []).toArray⟩):=by
 obtain⟨vs,h1,h2⟩:=h;obtain⟨e1,la,lc,e2,h3⟩:=h2.get i hi;obtain⟨g,e3,h4⟩:=h1.ay.at e1;rw[e2]at h4;exact⟨g,la,lc,e3,h4,λk hk=>h3.ay.at (XH _ k hk)⟩
def ji(ws:List Bs):Nat->Bs
 | 0=>[]
 | k+1=>(if 0<k/\ws.getD k []≠[59] then ji ws k++[32] else ji ws k)++ws.getD k []
def r8:List Bs->Bs
 | []=>[]
 | w::r=>(if w=[59] then w else 32::w)++r8 r
theorem jw(l:List Bs)(w:Bs):r8 (l++[w])=r8 l++(if w=[59] then w else 32::w):=by
 induction l with
 | nil=>simp[r8]
 | cons x r ih=>rw[li,r8,ih,r8,po]
theorem Lo(l:List Bs):jh l=r8 l++[10]:=by
 induction l with
 | nil=>rfl
 | cons x r ih=>rw[jh,r8,ih,po]
theorem Rs(w:Bs)(r:List Bs):∀k,k<=r.length->ji (w::r) (k+1)=w++r8 (r.take k):=by
 intro k
 induction k with
 | zero=>intro _;simp[ji,r8]
 | succ k ih =>
   intro hk;have e:(w::r).getD (k+1) []=r.getD k []:=rfl
   have et:r.take (k+1)=r.take k++[r.getD k []]:=by
    rw[dc];simp[List.getD,show k<r.length by omega]
   rw[ji,e,ih (by omega),et,jw];by_cases h:r.getD k []=[59]
   ·rw[tj (λq=>q.2 h),tr h];simp
   ·rw[tr ⟨by omega,h⟩,tj h];simp
theorem N4(ws:List Bs):ji ws ws.length++[10]=gO ws:=by
 cases ws with
 | nil=>rfl
 | cons w r=>rw[pb,Rs w r _ (tg _),co,gO,Lo,po]
theorem jx(L:List (List Bs))(i:Nat)(hi:i<L.length):X1 (L.take (i+1))=X1 (L.take i)++gO (L.getD i []):=by
 unfold X1;rw[dc,lk];simp[List.getD,hi]
def eG(w:World):Prop:=s9 w/\∃g,prog.globalNamed "internal/strconv.uint64pow10" = some g/\g<w.heap.size
theorem eG.below(h:eG w)(hb:Below w.heap.size w w'):eG w':=by
 obtain⟨h1,g,h2,h3⟩:=h;exact⟨h1.below ⟨g,h2,h3⟩ hb,g,h2,tq h3 hb.size⟩
theorem Xy(w:World)(n:Int)(h0:0<=n)(h1:n<=9999)(hT:eG w):Calls prog 45 #[.int .i64 n] w λe w'=>e=.returned (.string ⟨(Lib.itoa n).toArray⟩)/\Below w.heap.size w w':=by
 refine(eh n (by omega) (by omega) w hT.1).mono ?_;rintro e w' ⟨rfl,k,os,rfl⟩;exact⟨rfl,(KT.AK k os (tg _)).below⟩
def aL(k:Nat):Bs:=([[60],[60,61],[61],[33,61],[62,61],[62]]:List Bs).getD k []
theorem Gy(w:World)(k:Nat)(hk:k<6:=by omega):Calls prog 135 #[.int .i64 (k:Int)] w λe w'=>e=.returned (.string ⟨(aL k).toArray⟩)/\Below w.heap.size w w':=by
 have HB:Hid (∀o,Below w.heap.size w (w.alloc o)):=λo=>fk (tg _) o;have hc:k=0\/k=1\/k=2\/k=3\/k=4\/k=5:=by omega
 rcases hc with rfl|rfl|rfl|rfl|rfl|rfl
 all_goals
  go_enter func135,ntmps135
  go_wp2_with fail
  go_ret
  exact⟨rfl,HB.out _⟩
def uZ(t:yH):List Bs :=
 if t.kind=0 then [ZB] else if t.kind=1 then [xC t.x.toNat] else if t.kind=2 then [eU,xU 99 t.x.toNat] else
 if t.kind=3 then [xC t.x.toNat,aL t.mark.toNat,Lib.itoa t.n] else [xC t.x.toNat,aL t.mark.toNat,xC t.y.toNat]
def xM(t:yH)(lo:Bool):List Bs:=(if t.not=true then [[110,111,116]] else [])++(if (lo&&t.pair)=true then [[40]] else [])++uZ t++(if (lo&&t.pair)=true then [[41]] else [])
structure VM(w wx:World)(bo:Obj)(v:Value)(ws:List Bs):Prop where
 box:wx.heap[w.heap.size]? = some bo
 own:wx.ownsRow (w.heap.size+1) 9 1 v ws.length (xG ws)
 af:Below w.heap.size w wx
theorem VM.below{wx:World}{bo:Obj}(h:VM w wx bo v ws)(hb:Below wx.heap.size wx w'):VM w w' bo v ws:=⟨(hb.block _ (zP h.box)).trans h.box,kV h.own hb,h.af.trans (hb.mono h.af.size)⟩
theorem VM.app{wx wz w9:World}{bo:Obj}{v9:Value}{ns:List Bs}(h:VM w wx bo v ws)(hz:Below wx.heap.size wx wz)(hg:wz.grownBy w9 v.ownBlock)(aA:w9.ownsRow (w.heap.size+1) 9 1 v9 (ws.length+ns.length) (xG ws++xG ns)):VM w w9 bo v9 (ws++ns):=by
 have hZ:=h.below hz;have hb:Below (w.heap.size+1) wz w9:=(tl _ wz).grown hg (zP hZ.box) (zS hZ.own);refine⟨(hb.block _ (mh _)).trans hZ.box,?_,hZ.af.trans (hb.mono (my _))⟩;rw[tm];have e:xG (ws++ns)=xG ws++xG ns:=by unfold xG;rw[bj]
 rw[e];exact aA
end Go.Proofs.YtnbpdffdnphbeabGreatDoor
