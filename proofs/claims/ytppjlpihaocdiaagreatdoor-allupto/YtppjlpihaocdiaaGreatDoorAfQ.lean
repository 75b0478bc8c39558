import Derived.Test.YtppjlpihaocdiaaGreatDoorAaQ
import Derived.Test.YtppjlpihaocdiaaGreatDoorAeQ
set_option linter.all false
set_option maxRecDepth 100000
set_option maxHeartbeats 16000000
namespace Go.Proofs.YtppjlpihaocdiaaGreatDoor
open Go.RowKit Go.Proofs.Tryz
variable{w u v:ae}{a b c d e:Nat}{s t:ag}{x y z:af}{p D:Int}{l:List af}{f:Bool}{g:List Nat}{h:Nat->Prop}{o:Option Addr}{r:List UInt8}{A:Nat->Bool}{B:Nat->Nat->Bool}{C:Nat->Nat->Prop}(i:Nat)(S T:ag)(V X:af)(j k m n:Nat)(Z:Int)(W:ae)
section
def apa(h:Nat->Bool)(a:Pl i j h):
  Calls prog 67 #[.agg #[.int .u64 i,.int .u64 j]] W λl H=>∃(k:Nat)(n:Bool),l=.returned (.tuple #[.int .i64 k,.bool n])/\Below W.heap.size W H/\
   ((n=true/\k<128/\h k=true/\∀f,k<f->f<128->h f=false)\/(n=false/\∀f,f<128->h f=false)):=by
 have b:=a.a;have d:=a.b;have B:(i:Int)<=18446744073709551615:=Q
 have C:(j:Int)<=18446744073709551615:=Q
 have D:(0:Int)<=i:=Q
 have E:(0:Int)<=j:=Q
 go_in;go_wp21;go_loopw [4] (λr wr=>∃(e:Int),-1<=e/\e<=1/\r=I e/\xh wr W.heap.size i j/\Below W.heap.size W wr/\Y (e<1->j=0)/\Y (e<0->i=0)) (λr _=>(intOf r+1).toNat)
 .exact⟨1,Q,Q,rfl,by constructor<;>go_simp,(bp _ _).alloc ah _,λm=>Q,λm=>Q⟩
 obtain⟨e,M,P,rfl,⟨v,w,s,t⟩,g,o,x⟩:=hrel;obtain rfl|rfl|rfl:e=1\/e=0\/e=-1:=Q
 .rcases df ((j:Int) !=0)with d|d
  .have c:j≠0:=qK d
   have b:=J c;have y:(Lib.bitLen j:Int)<=64:=by have:=(Ia j b a.b).2.1;omega
   have F:(1:Int)<=(Lib.bitLen j:Int):=by have:=(Ia j b a.b).1;omega
   go_wp21;go_call aeh as l L ⟨rfl,rfl⟩;rw[yxl];go_wp21;go_ret2;let⟨z,A,p,q⟩:=Ia j b a.b;refine⟨64+(Lib.bitLen j-1),true,qJ,g,.inl ⟨rfl,Q,?_,λf u K=> ?_⟩⟩
   .rw[<-a.m _ Q];rw[mem,N,yyi];exact p
   rw[<-a.m _ Q];rw[mem,N];exact q _ Q
  have c:j=0:=qK d
  have b:=J c;go_wp21;go_roundw
  .exact⟨0,Q,Q,rfl,⟨v,w,s,t⟩,g,λ_=>b,λm=>Q⟩
  simp[intOf]
 .rcases df ((i:Int) !=0)with d|d
  .have c:i≠0:=qK d
   have b:=J c;have y:(Lib.bitLen i:Int)<=64:=by have:=(Ia i b a.a).2.1;omega
   have F:(1:Int)<=(Lib.bitLen i:Int):=by have:=(Ia i b a.a).1;omega
   go_wp21;go_call aeh as l L ⟨rfl,rfl⟩;rw[yxl];go_wp21;go_ret2;let⟨z,A,p,q⟩:=Ia i b a.a;refine⟨Lib.bitLen i-1,true,qJ,g,.inl ⟨rfl,Q,?_,λf u K=> ?_⟩⟩
   .rw[<-a.m _ Q];rw[mem,G];exact p
   rw[<-a.m _ Q];unfold mem;have:j=0:=o Q;split
   .exact q _ Q
   rw[this,yxa]
  have c:i=0:=qK d
  have b:=J c;go_wp21;go_roundw
  .exact⟨-1,Q,Q,rfl,⟨v,w,s,t⟩,g,λ_=>o Q,λm=>b⟩
  simp[intOf]
 go_wp21;go_ret2;refine⟨0,false,rfl,g,.inr ⟨rfl,λf u=> ?_⟩⟩;rw[<-a.m _ Q];rw[mem,o.out Q,x.out Q,yxa,yxa,ite_self]
def MP(a b:af):Sem af:=Instr.makeSlice 155 a b
def Hn:Instr.makeSlice 155 V X=MP V X:=rfl
attribute [local go_sem↓] Hn
def apt:(prog.info? 158).map (λa=>(a.zero,a.size,a.bytes))=some (some<|.agg #[.int .u64 0,.int .u64 0],2,16):=qF
def Pj(a:Array af)(e:af)(f:∀b,b<a.size->a[b]! =e)(g:0<a.size)(c d:Nat)(h:d<c:=by omega):(madeCells a c)[d]?=some e:=by
 rw[madeCells,Array.getElem?_map];simp only[Array.getElem?_range,h,if_true,yxq];rw[f _<|Nat.mod_lt _ g]
def Lw(n:i<=100000:=by omega):∃d:Array af,(∀b,b<i*2->d[b]?=some (.int .u64 0))/\∀a,(MP (I i)<|I i).run prog a=.ok (aa a.heap.size i i) (a.alloc<|.cells d 158):=by
 let⟨j,e,f,g,h⟩:=yyf apt;refine⟨madeCells (Value.agg #[.int .u64 0,.int .u64 0]).cells<|i*2,λb k=>Pj _ _ ?_ ?_ _ b k,λa=> ?_⟩
 .intro c l
  have m:c<2:=by simpa[Value.cells]using l
  obtain rfl|rfl:c=0\/c=1:=Q
  .rfl
  rfl
 .simp[Value.cells]
 have:=yxt (P:=prog) a 155 158 j _ underlying155 e f .i64 .i64 i i Q (yzw _) (by rw[h];omega) Q;rw[g]at this;rw[<-Hn];simpa using this
structure fx(w:ae)(g L:Nat)(M:Nat->Nat->Bool):Prop where
 cell:∀i,i<=L->∃A B:Nat,w.cell? (O g<|i*2)=some (.int .u64 A)/\w.cell? (O g<|i*2+1)=some (.int .u64 B)/\w.frozen? (O g<|i*2)=false/\w.frozen? (O g<|i*2+1)=false/\Pl A B (M i)
def Pl.zero:Pl 0 0 (λ_=>false):=⟨qG,qG,λa _=>by unfold mem;split<;>simp⟩
def fx.cast{e f:Nat->Nat->Bool}(n:fx w a b e)(l:∀c,c<=b->∀d,e c d=f c d):fx w a b f:=by
 refine⟨λc g=> ?_⟩;let⟨h,i,j,k,m,o,p⟩:=n.cell c g;exact⟨h,i,j,k,m,o,by rw[show f c=e c from funext λd=>(l c g d).symm];exact p⟩
def fx.cw{d w':ae}(l:fx d a b B)(e:w'.heap[a]?=d.heap[a]?):fx w' a b B:=by
 refine⟨λm j=> ?_⟩;let⟨h,i,k,n,o,p,q⟩:=l.cell m j;have f:∀c,w'.cell? (O a c)=d.cell? (O a c):=λc=>ac c e
 have g:∀c,w'.frozen? (O a c)=d.frozen? (O a c):=λc=>ad c e
 exact⟨h,i,(f _).trans k,(f _).trans n,(g _).trans o,(g _).trans p,q⟩
def fx.lt(d:fx w a b B):a<w.heap.size:=by
 let⟨e,f,c,_⟩:=d.cell 0<|ey _;exact dw w _ c
def fx.below(f:fx w b c B)(d:Below a w u)(e:b<a:=by omega):fx u b c B:=f.cw<|d.block b e
def fx.put(q:fx w a b B)(v:c<=b)(r:Pl d e A):
  fx ((w.setCell (O a<|c*2)<|.int .u64 d).setCell (O a<|c*2+1)<|.int .u64 e) a b (λi=>if i=c then A else B i):=by
 refine⟨λi s=> ?_⟩;let⟨t,k,l,m,n,o,u⟩:=q.cell i s;have f:∀{h j:Nat},h≠j->((O a h):Addr)≠(O a j):=λp g=>p<|by injection g
 by_cases g:i=c
 .subst g;refine⟨d,e,?_,?_,?_,?_,by simp only[if_true];exact r⟩
  .rw[jm (h:=f Q)];exact qz _ _ _ l
  .refine qz _ _ _ (u:=.int .u64 k) ?_;rw[jm (h:=f Q)];exact m
  .rw[jf,jf];exact n
  rw[jf,jf];exact o
 refine⟨t,k,?_,?_,?_,?_,by simp only[g,yyv];exact u⟩
 .rw[jm (h:=f Q),jm (h:=f Q)];exact l
 .rw[jm (h:=f Q),jm (h:=f Q)];exact m
 .rw[jf,jf];exact n
 rw[jf,jf];exact o
def fx.made{c:Array af}(e:∀g,g<(b+1)*2->c[g]?=some (.int .u64 0))(d:w.heap[a]?=some (.cells c 158)):fx w a b (λ_ _=>false):=by
 refine⟨λf h=>⟨0,0,?_,?_,?_,?_,Pl.zero⟩⟩
 .rw[yya _ a (f*2) c 158 (0,0) d];exact e _ Q
 .rw[yya _ a (f*2+1) c 158 (0,0) d];exact e _ Q
 .simp[World.frozen?,d]
 simp[World.frozen?,d]
def fx.new{b:Array af}(d:∀c,c<(a+1)*2->b[c]?=some (.int .u64 0)):fx (w.alloc<|.cells b 158) w.heap.size a (λ_ _=>false):=fx.made d<|yyb w<|.cells b 158
def upto(k:Nat)(M:Nat->Nat->Bool)(i j:Nat):Bool:=decide (i<k)&&M i j
def fx.next(j:fx w a b (upto c B))(h:c<=b)(i:Pl d e (B c)):
  fx ((w.setCell (O a<|c*2)<|.int .u64 d).setCell (O a<|c*2+1)<|.int .u64 e) a b (upto (c+1) B):=by
 refine(j.put h i).cast λf k l=> ?_
 unfold upto;by_cases g:f=c
 .subst g;simp
 simp only[g,yyv];rw[show decide (f<c)=decide (f<c+1)from by rw[vv];simp;omega]
def Ol(H:i<=80):
  Calls prog 154 #[.int .i64 i] W λk n=>∃e:Nat,k=.returned (.slice (some ⟨e,0,none⟩) (i+1)<|i+1)/\W.heap.size<=e/\fx n e i (λc d=>d==c)/\Below W.heap.size W n:=by
 obtain⟨v,o,s⟩:=Lw (i+1) Q;rw[show((i+1:Nat):Int)=i+1 from Q]at s;go_in;go_wp21;go_loopw [10] (λf wr=>∃(b:Nat),b<=i+1/\f=I b/\Y (fx wr W.heap.size i<|upto b λc d=>d==c)/\Y (Below W.heap.size W wr)/\W.heap.size<wr.heap.size) (λf _=>i+1-(intOf f).toNat)
 case atStart=>exact⟨0,Q,rfl,(fx.new o).cast<|λc t d=>by simp[upto],(bp _ _).alloc ah _,qD⟩
 obtain⟨b,w,rfl,l,m,g⟩:=hrel;by_cases h:b<=i
 .go_wp21;go_call Wi b _ Q as k p ⟨A,B,rfl,r,a⟩;have j:=l.out.below a g;have q:=m.trans (a.mono Q);have F:=ew g a.size;obtain⟨x,y,z,C,D,E,u⟩:=j.cell b h;clear a u;go_wp21;go_roundw
  case rel=>exact⟨b+1,Q,qJ,j.next h r,(q.setCell ah _).setCell ah _,by simp[World.setCell];omega⟩
  simp[intOf];omega
 have j:b=i+1:=Q
 subst j;go_wp21;go_ret;exact⟨_,rfl,ah,l.cast (λc t d=>by simp[upto];omega),m.out⟩
end
section
attribute [local go_sem↓] Hn
def ank(a p q B C:Nat)(c:ae)(l n:Nat->Nat->Bool)(Z:a<=80)(u:fx c p a l)(v:fx c q a n):
  Calls prog 157 #[.slice (some ⟨p,0,none⟩) (a+1) B,.slice (some ⟨q,0,none⟩) (a+1) C] c λt w=>∃k:Nat,t=.returned (.slice (some ⟨k,0,none⟩) (a+1)<|a+1)/\c.heap.size<=k/\fx w k a (λd e=>l d e||n d e)/\Below c.heap.size c w:=by
 obtain⟨a0,s,r⟩:=Lw (a+1) Q;rw[show((a+1:Nat):Int)=a+1 from Q]at r;have D:=u.lt;have E:=v.lt;go_in;go_wp21;go_loopw [12] (λo wr=>∃(b:Nat),b<=a+1/\o=I b/\Y (fx wr c.heap.size a (upto b λd e=>l d e||n d e))/\Y (Below c.heap.size c wr)/\c.heap.size<wr.heap.size) (λo _=>a+1-(intOf o).toNat)
 case atStart=>exact⟨0,Q,rfl,(fx.new s).cast<|λd F e=>by simp[upto],(bp _ _).alloc ah _,qD⟩
 obtain⟨b,a1,rfl,m,h,P⟩:=hrel;by_cases g:b<=a
 .obtain⟨x,y,a2,a3,a4,a5,z⟩:=(u.below h.out D).cell b g;obtain⟨K,L,a6,a7,a8,a9,A⟩:=(v.below h.out E).cell b g;obtain⟨R,V,aA,aB,aC,aD,i⟩:=m.cell b g;clear i r s;go_wp21;go_region_with (first|(go_at_call 190;(go_call Qb x y K L _ _ _ z A as t T ⟨S,W,rfl,H,f⟩;have i:=(bp wr.heap.size wr).drew.trans f;have j:=m.below i P;have qa:=j;obtain⟨U,X,aE,aF,aG,aH,M⟩:=j.cell b g;clear f j M)))
  all_goals
   go_wp21;go_roundw
   case rel=>exact⟨b+1,Q,qJ,qa.next g H,((h.trans<|i.mono Q).setCell ah _).setCell ah _,by have:=i.size;simp[World.setCell];omega⟩
   simp[intOf];omega
 have i:b=a+1:=Q
 subst i;go_wp21;go_ret;exact⟨_,rfl,ah,m.cast (λd F e=>by simp[upto];omega),h.out⟩
def ow(s r:Nat->Nat->Bool)(i lo k j:Nat):Bool:=(List.range k).any λm=>decide (lo<=m)&&(s i m&&r m j)
def afr(f e:Nat->Nat->Bool)(b d a c:Nat):ow f e b d (a+1) c=(ow f e b d a c||(decide (d<=a)&&(f b a&&e a c))):=by
 unfold ow;rw[List.range_succ,List.any_append];simp
def ar6(g f:Nat->Nat->Bool)(d b a e:Nat)(h:a<=b):ow g f d b a e=false:=by
 rw[ow,List.any_eq_false];intro i c
 have:=yxw.1 c;simp;omega
def Wo(h g:Nat->Nat->Bool)(c f e d:Nat):ow h g c f e d=true↔∃a,f<=a/\a<e/\h c a=true/\g a d=true:=by
 rw[ow,yxp];constructor
 .rintro⟨a,i,b⟩;simp at b;exact⟨a,b.1,yxw.1 i,b.2.1,b.2.2⟩
 rintro⟨a,i,b,j,k⟩;exact⟨a,yxw.2 b,by simp[*]⟩
def afq{k j g:Nat->Nat->Bool}(l:∀e,b<=e->e<c->j e d=g e d):ow k j a b c d=ow k g a b c d:=by
 unfold ow;rw[vv,yxp,yxp];constructor
 all_goals
  rintro⟨e,h,f⟩;refine⟨e,h,?_⟩;simp only[Aw,xz]at f|-;have i:=l e f.1<|yxw.1 h
  first|(rw[<-i];exact f)|(rw[i];exact f)
def xh.cw{c w':ae}(i:xh c a p D)(d:w'.heap[a]?=c.heap[a]?):xh w' a p D:=by
 let⟨g,h,j,k⟩:=i;have e:∀b,w'.cell? (O a b)=c.cell? (O a b):=λb=>ac b d
 have f:∀b,w'.frozen? (O a b)=c.frozen? (O a b):=λb=>ad b d
 exact⟨(e _).trans g,(e _).trans h,(f _).trans j,(f _).trans k⟩
def xh.put(d:xh w a p D)(b c:Int):xh ((w.setCell (O a 0)<|.int .u64 b).setCell (O a 1)<|.int .u64 c) a b c:=by
 let⟨e,f,g,h⟩:=d;constructor<;>go_simp
def xh.qg(e:xh w a p D)(c:b≠a)(f:Nat)(g:af):xh (w.setCell (O b f) g) a p D:=
 e.cw (er _ _ _ _<|λd=>c<|qK d.symm)
def afk(b w x W X e c:Nat)(j:ae)(k d:Nat->Nat->Bool)(aE:b<=80)(a3:e<=b)(a9:c<=b+1)(D:fx j w b k)(E:fx j x b d):
  Calls prog 191 #[.slice (some ⟨w,0,none⟩) (b+1) W,.int .i64 e,.int .i64 c,.slice (some ⟨x,0,none⟩) (b+1) X] j λl a5=>∃f g:Nat,l=.returned (.agg #[.int .u64 f,.int .u64 g])/\Pl f g (ow k d e c<|b+1)/\Below j.heap.size j a5:=by
 have Z:=D.lt;have a4:=E.lt;go_in;go_wp21;go_loopw [10] (λu wr=>∃(a f g:Nat),c<=a/\a<=b+1/\u=I a/\Y (xh wr j.heap.size 0 0)/\Y (xh wr (j.heap.size+1) f g)/\Y (Pl f g<|ow k d e c a)/\Y (Below j.heap.size j wr)/\j.heap.size+1<wr.heap.size) (λu _=>b+1-(intOf u).toNat)
 case atStart=>exact⟨c,0,0,Q,Q,rfl,by constructor<;>go_simp,by constructor<;>go_simp,by rw[show ow k d e c c=λ_=>false from funext λaF=>ar6 _ _ _ _ _ _ ah];exact Pl.zero,((bp _ _).alloc ah _).alloc qD _,qD⟩
 obtain⟨a,f,g,a6,y,rfl,v,q,r,o,z⟩:=hrel;by_cases qa:a<=b
 .obtain⟨F,L,y,a0,a1,a2,U⟩:=(D.below o.out Z).cell e a3;go_wp21;refine(Gj F L a _ Q _ U).mono ?_;rcases df (k e a)with h|h
  .have s:=J h;rw[h];clear h;rintro l t ⟨rfl,i⟩;have A:=o.trans (i.mono Q);have a8:=ew z i.size;have R:=v.cw (i.block _ Q);have B:=J (q.cw<|i.block _ Q);obtain⟨u1,u2,u3,u4⟩:=B.out;obtain⟨H,M,aA,aB,aC,aD,V⟩:=(E.below A a4).cell a qa;clear i y a0 a1 a2;go_wp21;go_region_with (first|(go_at_call 190;(go_call Qb f g H M _ _ _ r.out V as l a7 ⟨K,P,rfl,T,p⟩;have m:=(bp t.heap.size t).drew.trans p;have S:=R.cw (m.block _ Q);have C:=J (B.cw<|m.block _ Q);obtain⟨aG,aH,aI,aJ⟩:=C.out;clear p)))
   all_goals
    go_wp21;go_roundw
    case rel=>exact⟨a+1,K,P,Q,Q,qJ,(S.qg Q _ _).qg Q _ _,C.put _ _,by
     rw[show ow k d e c (a+1)=λn=>ow k d e c a n||d a n from funext λn=>by rw[afr,s.out];simp[a6]];exact T,((A.trans<|m.mono Q).setCell qD _).setCell qD _,by have:=m.size;simp[World.setCell];omega⟩
    simp[intOf];omega
  have s:=J h;rw[h];clear h;rintro l t ⟨rfl,i⟩;go_wp21;go_roundw
  case rel=>exact⟨a+1,f,g,Q,Q,qJ,v.cw<|i.block _ Q,q.cw<|i.block _ Q,by
    rw[show ow k d e c (a+1)=ow k d e c a from funext λn=>by rw[afr,s.out];simp];exact r.out,o.trans<|i.mono Q,ew z i.size⟩
  simp[intOf];omega
 have i:a=b+1:=Q
 subst i;obtain⟨u1,u2,u3,u4⟩:=q.out;obtain⟨m,n,s,t⟩:=v.out;go_wp21;exact yyd (v:=.agg #[.int .u64 f,.int .u64 g]) (by simp[results,results191,go_sem, *]) rfl ⟨f,g,rfl,r.out,(o.setCell ah _).setCell ah _⟩
def Yu(e f:Nat->Nat->Bool)(x:i<=80)(o:fx W j i e)(p:fx W k i f):
  Calls prog 155 #[.slice (some ⟨j,0,none⟩) (i+1) m,.slice (some ⟨k,0,none⟩) (i+1) n] W λt u=>∃l:Nat,t=.returned (.slice (some ⟨l,0,none⟩) (i+1)<|i+1)/\W.heap.size<=l/\fx u l i (λc d=>ow e f c c (i+1) d)/\Below W.heap.size W u:=by
 obtain⟨M,H,y⟩:=Lw (i+1) Q;rw[show((i+1:Nat):Int)=i+1 from Q]at y;have z:=o.lt;have D:=p.lt;go_in;go_wp21;go_loopw [12] (λq wr=>∃(b:Nat),b<=i+1/\q=I b/\Y (fx wr W.heap.size i<|upto b λc d=>ow e f c c (i+1) d)/\Y (Below W.heap.size W wr)/\W.heap.size<wr.heap.size) (λq _=>i+1-(intOf q).toNat)
 case atStart=>exact⟨0,Q,rfl,(fx.new H).cast<|λc E d=>by simp[upto],(bp _ _).alloc ah _,qD⟩
 obtain⟨b,P,rfl,v,g,r⟩:=hrel;by_cases h:b<=i
 .go_wp21;go_call afk i j k m n b b _ e f x h Q (o.below g.out z) (p.below g.out D)as t C ⟨A,B,rfl,w,a⟩;have s:=v.out.below a r;have K:=g.trans (a.mono Q);have L:=ew r a.size;obtain⟨U,R,o,p,S,T,F⟩:=s.cell b h;clear a F;go_wp21;go_roundw
  case rel=>exact⟨b+1,Q,qJ,s.next h w,(K.setCell ah _).setCell ah _,by simp[World.setCell];omega⟩
  simp[intOf];omega
 have s:b=i+1:=Q
 subst s;go_wp21;go_ret;exact⟨_,rfl,ah,v.cast (λc E d=>by simp[upto];omega),g.out⟩
end
def half(k:Nat)(M E:Nat->Nat->Bool)(i j:Nat):Bool:=if i<k then M i j else E i j
theorem fx.step{g h:Nat->Nat->Bool}(f:fx w a b (half c g h))(k:c<=b)(l:Pl d e (g c)):
  fx ((w.setCell (O a<|c*2)<|.int .u64 d).setCell (O a<|c*2+1)<|.int .u64 e) a b (half (c+1) g h):=by
 refine(f.put k l).cast λj m n=> ?_
 unfold half;by_cases i:j=c
 .subst i;simp
 simp only[i,yyv];grind
def Mr(a:j=i+1:=by omega)(b:i<=1000:=by omega):IntKind.i64.wrap ((i:Int)+1)=(j:Int):=by
 subst a;simp[IntKind.wrap,IntKind.min,IntKind.signed,IntKind.bits]<;>omega
def afl(a e f k l c d:Nat)(m:Int)(q:m=(d:Int))(b:ae)(g h:Nat->Nat->Bool)(r:a<=80)(p:c<=a)(o:d<=a+1)(s:fx b e a g)(t:fx b f a h):
  Calls prog 191 #[.slice (some ⟨e,0,none⟩) (a+1) k,.int .i64 c,.int .i64 m,.slice (some ⟨f,0,none⟩) (a+1) l] b λn u=>∃i j:Nat,n=.returned (.agg #[.int .u64 i,.int .u64 j])/\Pl i j (ow g h c d<|a+1)/\Below b.heap.size b u:=by
 subst q;exact afk a e f k l c d b g h r p o s t
def aqv(a q r x y:Nat)(f:ae)(h i:Nat->Nat->Bool)(z:a<=80)(s:fx f q a h)(t:fx f r a i):
  Calls prog 156 #[.slice (some ⟨q,0,none⟩) (a+1) x,.slice (some ⟨r,0,none⟩) (a+1) y] f λo F=>∃e:Nat,o=.returned (.slice (some ⟨e,0,none⟩) (a+1)<|a+1)/\f.heap.size<=e/\fx F e a (λd b=>(b==d)||ow h i d (d+1) (a+1) b)/\Below f.heap.size f F:=by
 have X:=J s;have Z:=J t;have a0:=s.lt;have a5:=t.lt;clear s t;go_in;go_wp21;go_call Ol a _ z as o w0 ⟨e,rfl,a3,E,n⟩;have M:=E.lt;have P:=J E;have qa:=J n;clear E n;go_wp21;go_loopw [13] (λu wr=>∃(c:Nat),c<=a+1/\u=I c/\Y (fx wr e a<|half c (λd b=>(b==d)||ow h i d (d+1) (a+1) b) λd b=>b==d)/\Y (Below f.heap.size f wr)/\e<wr.heap.size) (λu _=>a+1-(intOf u).toNat)
 case atStart=>exact⟨0,Q,rfl,P.cast<|λd a4 b=>by simp[half],qa.out,M⟩
 obtain⟨c,aF,rfl,k,l,m⟩:=hrel;by_cases p:c<=a
 .obtain⟨v,w,a1,a2,aD,aE,g⟩:=k.cell c p;have R:Y (Pl v w<|λb=>b==c):=by rw[show(λb=>b==c)=half c (λd b=>(b==d)||ow h i d (d+1) (a+1) b) (λd b=>b==d) c from funext λb=>by simp[half]];exact g
  have S:Y (fx wr.drew q a h):=(X.below l.out a0).cw rfl;have T:Y (fx wr.drew r a i):=(Z.below l.out a5).cw rfl;clear g;go_wp21;go_region_with (first|(go_at_call 190;(refine(Qb v w K L _ _ _ R.out U.out).mono ?_;rintro o aG ⟨a6,a8,rfl,A,B⟩;have V:=J A;have j:=C.trans<|B.mono C.size;have g:=k.below j m;have W:=J g;obtain⟨a7,a9,aH,aI,aJ,aK,H⟩:=g.cell c p;have D:=J j;clear A B j g H))|(go_at_call 191;(refine(afl a q r x y c (c+1) _ (by first|omega|exact Mr c _ rfl Q) _ h i z p Q S.out T.out).mono ?_;rintro o B ⟨K,L,rfl,A,H⟩;have U:=J A;have j:=(bp wr.heap.size wr).drew.trans H;have g:=k.below j m;have aA:=J g;have aB:=(ac (c*2)<|j.block e m).trans a1;have aC:=(ac (c*2+1)<|j.block e m).trans a2;have C:=J j;clear A H j g)))
  all_goals
   go_wp21;go_roundw
   case rel=>exact⟨c+1,Q,qJ,W.step p V.out,((l.trans<|D.mono Q).setCell Q _).setCell Q _,by have:=D.size;simp[World.setCell];omega⟩
   simp[intOf];omega
 have g:c=a+1:=Q
 subst g;go_wp21;go_ret;exact⟨_,rfl,a3,k.cast (λd a4 b=>by rw[half,G Q]),l.out⟩
def Zk(L:Nat)(M1 M:Nat->Nat->Bool):Prop:=∀i,i<=L->∀j,M i j=((j==i)||ow M1 M i (i+1) (L+1) j)
def akq(n:Nat->Nat->Bool)(x:i<=80)(l:fx W j i n):
  Calls prog 153 #[.slice (some ⟨j,0,none⟩) (i+1) k] W λg D=>∃e:Nat,g=.returned (.slice (some ⟨e,0,none⟩) (i+1)<|i+1)/\W.heap.size<=e/\∃d:Nat->Nat->Bool,fx D e i d/\Zk i n d/\Below W.heap.size W D:=by
 have R:=J l;have a3:=l.lt;clear l;go_in;go_wp21;go_call Ol i _ x as g w0 ⟨e,rfl,a2,a,p⟩;have M:=a.lt;have P:=J a;have qa:=J p;clear a p;go_wp21;go_loopw [4] (λt wr=>∃(f:Int)(d:Nat->Nat->Bool),-1<=f/\f<=(i:Int)/\t=I f/\Y (fx wr e i d)/\Y (∀a:Nat,(a:Int)<=f->∀b,d a b=(b==a))/\Y (∀a:Nat,f<(a:Int)->a<=i->∀b,d a b=((b==a)||ow n d a (a+1) (i+1) b))/\Y (Below W.heap.size W wr)/\e<wr.heap.size) (λt _=>(intOf t+1).toNat)
 case atStart=>exact⟨i,λa b=>b==a,Q,Q,rfl,P.out,λ_ _ _=>rfl,λa l y=>Q,qa.out,M⟩
 obtain⟨f,d,aE,C,rfl,o,z,A,s,r⟩:=hrel;by_cases a8:0<=f
 .obtain⟨c,rfl⟩:∃c:Nat,f=c:=⟨f.toNat,Q⟩;have q:c<=i:=Q
  obtain⟨v,w,a0,a1,aC,aD,h⟩:=o.cell c q;have S:Y (Pl v w<|λb=>b==c):=by rw[show(λb=>b==c)=d c from funext λb=>(z.out c Q b).symm];exact h
  have T:Y (fx wr.drew j i n):=(R.below s.out a3).cw rfl;have U:Y (fx wr.drew e i d):=o.cw rfl;clear h;go_wp21;go_region_with (first|(go_at_call 190;(refine(Qb v w K L _ _ _ S.out V.out).mono ?_;rintro g aF ⟨a4,a6,rfl,u,B⟩;have X:=J u;have m:=E.trans<|B.mono E.size;have h:=o.below m r;have Z:=J h;obtain⟨a5,a7,aG,aH,aI,aJ,H⟩:=h.cell c q;have F:=J m;clear u B m h H))|(go_at_call 191;(refine(afl i j e k (i+1) c (c+1) _ (by first|omega|exact Mr c _ rfl Q) _ n d x q Q T.out U.out).mono ?_;rintro g H ⟨K,L,rfl,B,u⟩;have V:=J B;have m:=(bp wr.heap.size wr).drew.trans u;have h:=o.below m r;have a9:=J h;have aA:=(ac (c*2)<|m.block e r).trans a0;have aB:=(ac (c*2+1)<|m.block e r).trans a1;have E:=J m;clear B u m h)))
  all_goals
   go_wp21;go_roundw
   case rel=>
    refine⟨(c:Int)-1,_,Q,Q,qJ,Z.put q X.out,λa h b=> ?_,λa h m b=> ?_,((s.trans<|F.mono Q).setCell Q _).setCell Q _,by have:=F.size;simp[World.setCell];omega⟩
    .rw[N Q];exact z.out a Q b
    by_cases g:a=c
    .subst g;rw[G rfl];exact congrArg _<|afq λu l y=>by rw[N Q]
    rw[N g,A.out a Q m b];exact congrArg _<|afq λu l y=>by rw[N Q]
   simp[intOf]<;>omega
 have C:f=-1:=Q
 subst C;go_wp21;go_ret;exact⟨_,rfl,a2,d,o.out,λa h b=>A.out a Q h b,s.out⟩
section
attribute [local go_sem↓] Hn
def Kv(y0 y1 y2 y3 c:Nat):Bool:=if c<64 then y0.testBit c else if c<128 then y1.testBit (c-64)else if c<192 then y2.testBit (c-128)else y3.testBit (c-192)
structure S4(y0 y1 y2 y3:Nat)(S:Nat->Bool):Prop where
 a0:y0<2^64
 a1:y1<2^64
 a2:y2<2^64
 a3:y3<2^64
 m:∀c,c<256->Kv y0 y1 y2 y3 c=S c
def aun(e:n<256)(c:Nat->Bool)(a:S4 i j k m c):
  Calls prog 152 #[.agg #[.int .u64 i,.int .u64 j,.int .u64 k,.int .u64 m],.int .u8 n] W λd f=>d=.returned (.bool<|c n)/\Below W.heap.size W f:=by
 obtain b|b|b|b:(n:Int)/64=0\/(n:Int)/64=1\/(n:Int)/64=2\/(n:Int)/64=3:=by omega
 all_goals
  go_in;go_wp2;go_ret;refine⟨pp ?_,(bp _ _).alloc ah _⟩;rw[aaz _ _<|by first|exact a.a0|exact a.a1|exact a.a2|exact a.a3,<-a.m n e];unfold Kv
 .rw[G,yxn<|by omega]
 .rw[N,G,show n%64=n-64 from by omega]
 .rw[N,N,G,show n%64=n-128 from by omega]
 rw[N,N,N,show n%64=n-192 from by omega]
structure Rw(w:ae)(lo r m L:Nat)(T:Nat->Nat->Nat->Bool):Prop where
 lr:lo<=r
 m1:1<=m
 H:∀q,q<m->∃g c,w.cell? (O r q)=some (aa g (L+1) c)/\lo<=g/\fx w g L (T q)
def Rw.lt{f:Nat->Nat->Nat->Bool}(e:Rw w a b c d f):b<w.heap.size:=by
 let⟨i,h,g,_⟩:=e.H 0 e.m1;exact dw w _ g
def Rw.of{g:Nat->Nat->Nat->Bool}(e:Rw w a b c d g)(h:∀f,a<=f->f<w.heap.size->u.heap[f]?=w.heap[f]?):Rw u a b c d g:=by
 refine⟨e.lr,e.m1,λl n=> ?_⟩;let⟨k,m,o,i,j⟩:=e.H l n;exact⟨k,m,(ac l<|h b e.lr e.lt).trans o,i,j.cw<|h k i j.lt⟩
def Rw.cast{l:ae}{j k e b:Nat}{f g:Nat->Nat->Nat->Bool}(c:Rw l j k e b f)(o:∀a,a<e->∀d,d<=b->∀i,f a d i=g a d i):Rw l j k e b g:=by
 refine⟨c.lr,c.m1,λa h=> ?_⟩;let⟨q,m,n,p,r⟩:=c.H a h;exact⟨q,m,n,p,r.cast<|o a h⟩
def Tl(L:Nat)(M:Nat->Nat->Bool)(R:Nat->Nat->Prop):Prop:=∀i,i<=L->∀j,(M i j=true↔R i j)
def jr(k:Nat):Int:=if k=0 then 2 else if k=1 then 0 else if k=2 then 1 else if k=3 then 3 else if k=4 then 6 else if k=5 then 5 else 4
def na(d:Nd):Int:=if d.R=3 then(d.num:Int)+1 else 0
def Lk(d:Nd)(ao:Option Addr)(c y0 y1 y2 y3:Nat):List af:=
 [I<|jr d.R,.slice ao d.ba.length c,.int .u64 y0,.int .u64 y1,.int .u64 y2,.int .u64 y3, I<|na d, I d.lo, I d.hi]
def Kids(w:ae)(x:Nat)(ao:Option Addr)(ba:List Nat):Prop:=
 ba=[]\/∃kb,ao=some (O kb 0)/\kb≠x/\∀(k y:Nat),ba[k]?=some y->w.cell? (O kb k)=some (I y)
def Kids.of(d:Kids w a o g)(f:∀b,b<w.heap.size->b≠a->u.heap[b]?=w.heap[b]?):Kids u a o g:=by
 obtain d|⟨c,h,e,i⟩:=d
 .exact .inl d
 refine .inr ⟨c,h,e,λb k j=> ?_⟩;have:=i b k j;exact(ac b<|f c (dw w _ this) e).trans this
structure Pp where
 bc:List Nd
 s:ag
 root:Nat
 eu:Nat
 tb:Nat
 nb:Nat
 vb:Nat
 cap:Nat
def Be(w:ae)(x nb k:Nat)(d:Nd):Prop:=
 ∃ao c y0 y1 y2 y3,S4 y0 y1 y2 y3 d.set/\Kids w x ao d.ba/\d.ba.length<=c/\∀o v,(Lk d ao c y0 y1 y2 y3)[o]?=some v->w.cell? (O nb<|k*9+o)=some v
def Be.lt{e:Nd}(f:Be w a b c e):b<w.heap.size:=by
 let⟨h,g,i,j,k,l,_,_,_,d⟩:=f;exact dw w _<|d 0 _ rfl
def Be.of{w d:ae}{c b a:Nat}{e:Nd}(g:Be w c b a e)(j:b≠c)(f:∀a,a<w.heap.size->a≠c->d.heap[a]?=w.heap[a]?):Be d c b a e:=by
 have k:=g.lt;let⟨l,i,m,n,o,p,q,r,s,t⟩:=g;exact⟨l,i,m,n,o,p,q,r.of f,s,λh v u=>(ac (a*9+h)<|f b k j).trans<|t h v u⟩
structure pz(w:ae)(p:Pp)(k:Nat)(T:Nat->Nat->Nat->Nat->Bool)(m:Nat->Nat):Prop where
 c0:w.cell? (O p.tb 0)=some (aa p.nb p.bc.length p.cap)
 c1:w.cell? (O p.tb 1)=some (I p.root)
 c2:w.cell? (O p.tb 2)=some (I p.eu)
 c3:w.cell? (O p.tb 3)=some (.string p.s)
 c4:w.cell? (O p.tb 4)=some (aa p.vb p.bc.length p.bc.length)
 vt:p.tb≠p.vb
 vn:p.nb≠p.vb
 node:∀(a:Nat)(d:Nd),p.bc[a]?=some d->Be w p.vb p.nb a d
 slot:∀a,a<p.bc.length->(∃v,w.cell? (O p.vb a)=some v)/\w.frozen? (O p.vb a)=false
 row:∀a,a<k->∃r,w.cell? (O p.vb a)=some (aa r (m a)<|m a)/\Rw w (p.vb+1) r (m a) p.s.size (T a)
 kn:k<=p.bc.length
 js:p.s.size<=80
 ko:p.bc.length<=200
def pz.below{j:Pp}{m:Nat->Nat->Nat->Nat->Bool}{n:Nat->Nat}(b:pz w j a m n)(r:Below w.heap.size w u):pz u j a m n:=by
 have g:=r.block;have f:j.tb<w.heap.size:=dw w _ b.c0;have c:∀e i,e<w.heap.size->u.cell? (O e i)=w.cell? (O e i):=λe i h=>ac i<|g e h
 refine⟨(c _ _ f).trans b.c0,(c _ _ f).trans b.c1,(c _ _ f).trans b.c2,(c _ _ f).trans b.c3,(c _ _ f).trans b.c4,b.vt,b.vn,λd p hd=>(b.node d p hd).of b.vn λa k _=>g a k,λd l=> ?_,λd l=> ?_,b.kn,b.js,b.ko⟩
 .let⟨⟨s,o⟩,q⟩:=b.slot d l;have h:=dw w _ o;exact⟨⟨s,(c _ _ h).trans o⟩,(ad d<|g _ h).trans q⟩
 let⟨q,o,s⟩:=b.row d l;exact⟨q,(c _ _<|dw w _ o).trans o,s.of λa _ k=>g a k⟩
def pz.vlt{b:Pp}{c:Nat->Nat->Nat->Nat->Bool}{g:Nat->Nat}(f:pz w b a c g)(d:0<b.bc.length):b.vb<w.heap.size:=by
 let⟨⟨h,e⟩,_⟩:=f.slot 0 d;exact dw w _ e
def Jh(c:Pp)(i d:Nat)(h:Nat->Nat->Nat->Nat->Bool)(n:Nat->Nat)(f:ae)(b:pz f c i h n)(l:d<i):
  Calls prog 66 #[.pointer<|some ⟨c.tb,0,none⟩,.int .i64 d] f λk o=>∃a g,k=.returned (.slice (some ⟨a,0,none⟩) (c.s.size+1) g)/\c.vb+1<=a/\fx f a c.s.size (h d 0)/\o=f:=by
 let⟨r,q,e⟩:=b.row d l;let⟨a,g,s,m,j⟩:=e.H 0 e.m1;have t:=b.kn;have v:=b.c4;have p:=e.m1;go_in;go_wp21;go_ret;exact⟨a,g,rfl,m,j,rfl⟩
end
section
attribute [local go_sem↓] Hn
def kg(a:Addr)(b:af):(W.setCell a b).heap.size=W.heap.size:=by simp[World.setCell]
def Vy(a b:Obj):((W.alloc a).alloc b).heap[W.heap.size+1]?=some b:=by
 have d:(W.alloc a).heap.size=W.heap.size+1:=qD
 have c:=yyb (W.alloc a) b;rw[d]at c;exact c
def Rw.one{k:TypeId}(f:fx w b d B)(g:a<=w.heap.size)(h:a<=b)(i:e=w.heap.size):Rw (w.alloc<|.cells #[aa b (d+1) c] k) a e 1 d (λ_=>B):=by
 subst i;refine⟨g,ah,λj l=> ?_⟩;obtain rfl:j=0:=Q
 refine⟨b,c,?_,h,f.below (Below.alloc (bp w.heap.size w) ah _) f.lt⟩;rw[yya _ w.heap.size 0 _ _ (0,0)<|yyb w _];rfl
def ab4(c:Pp)(s a l:Nat)(q:Nat->Nat->Nat->Nat->Bool)(w:Nat->Nat)(e:ae)(g:pz e c s q w)(m:a<=c.s.size)(r:l<=e.heap.size):
  Calls prog 102 #[.pointer<|some ⟨c.tb,0,none⟩,.int .i64 a] e λd p=>∃n,d=.returned (.slice (some ⟨n,0,none⟩) 1 1)/\Rw p l n 1 c.s.size (λ_ h k=>(h==a)&&(k==a))/\Below e.heap.size e p:=by
 have H:=g.c3;have K:=g.js;let⟨x,i,o⟩:=Lw (c.s.size+1);rw[show((c.s.size+1:Nat):Int)=c.s.size+1 from Q]at o;go_in;go_wp21;go_call Wi as d t ⟨A,B,rfl,u,b⟩;have f:=(fx.new i).below b qD;have v:=f;have j:=((bp _ _).alloc ah _).trans (b.mono qD);let⟨y,z,C,D,E,F,_⟩:=f.cell a m;go_wp21;go_ret;have o:=j.size;refine⟨_,rfl,(Rw.one (v.put m u) (by rw[kg,kg];omega) r<|by rw[kg,kg]).cast<|λi _ h f k=> ?_,((j.setCell ah _).setCell ah _).alloc (by rw[kg,kg];omega) _⟩;by_cases d:h=a
 .subst d;simp
 simp[d]
def Sz{e f g h:af}(i:u.heap[a]?=w.heap[a]?)(c:w.cell? (O a 0)=some e/\w.cell? (O a 1)=some f/\w.cell? (O a 2)=some g/\w.cell? (O a 3)=some h):u.cell? (O a 0)=some e/\u.cell? (O a 1)=some f/\u.cell? (O a 2)=some g/\u.cell? (O a 3)=some h:=by
 have b:∀d,u.cell? (O a d)=w.cell? (O a d):=λd=>ac d i
 exact⟨(b 0).trans c.1,(b 1).trans c.2.1,(b 2).trans c.2.2.1,(b 3).trans c.2.2.2⟩
def arv(d:Z=(i:Int))(a:ae)(e:i<=80):
  Calls prog 151 #[.int .i64 Z] a λf h=>∃b c:Nat,f=.returned (.agg #[.int .u64 b,.int .u64 c])/\Pl b c (λg=>g==i)/\Below a.heap.size a h:=by
 subst d;exact Wi i a e
def art(a:Pp)(a4 qa n o p q:Nat)(h:Nat->Bool)(a0:Nat->Nat->Nat->Nat->Bool)(a5:Nat->Nat)(d:ae)(m:pz d a a4 a0 a5)(a1:S4 n o p q h)(aE:qa<=d.heap.size):
  Calls prog 103 #[.pointer<|some ⟨a.tb,0,none⟩,.agg #[.int .u64 n,.int .u64 o,.int .u64 p,.int .u64 q]] d λi S=>∃R,i=.returned (.slice (some ⟨R,0,none⟩) 1 1)/\Rw S qa R 1 a.s.size (λ_ e g=>decide (e<a.s.size)&&(h (au a.s e)&&(g==e+1)))/\Below d.heap.size d S:=by
 have r:=m.c3;have aK:=m.js;have a3:a.tb<d.heap.size:=dw d _ m.c0;obtain⟨aB,w,K⟩:=Lw (a.s.size+1) Q;rw[show((a.s.size+1:Nat):Int)=a.s.size+1 from Q]at K;have aF:=J r;clear m;go_in;go_wp21;go_loopw [19] (λv wr=>∃(b:Nat),b<=a.s.size/\v=I b/\Y (fx wr (d.heap.size+1) a.s.size<|upto b λe g=>decide (e<a.s.size)&&(h (au a.s e)&&(g==e+1)))/\Y (Below d.heap.size d wr)/\d.heap.size+1<wr.heap.size/\Y (wr.cell? (O d.heap.size 0)=some (.int .u64 n)/\wr.cell? (O d.heap.size 1)=some (.int .u64 o)/\wr.cell? (O d.heap.size 2)=some (.int .u64 p)/\wr.cell? (O d.heap.size 3)=some (.int .u64 q))) (λv _=>a.s.size+1-(intOf v).toNat)
 case atStart=>
  refine⟨0,Q,rfl,?_,((bp _ _).alloc ah _).alloc qD _,qD,qI,qI,qI,qI⟩;exact(fx.made w<|Vy d _ _).cast<|λe L g=>by simp[upto]
 obtain⟨b,M,rfl,P,j,x,H⟩:=hrel;by_cases T:b<a.s.size
 .have U:=(ac 3<|j.block _ a3).trans r;obtain⟨a6,a7,a8,a9⟩:=H.out;have aL:(0:Int)<=b:=Q
  have aM:(b:Int)<a.s.size:=Q
  have V:=ms a.s b;have F:=J T;clear r;go_wp21;go_region_with (first|(go_at_call 152;(have s:=oz a.s b F.out;rw[s];go_call aun n o p q (au a.s b) _ V h a1 as i z ⟨rfl,E⟩;have k:=(bp wr.heap.size wr).drew.trans E;clear E s)))
  all_goals
   have y:=P.out.below k x;have C:=j.trans (k.mono Q);have s:=ew x k.size;have D:=J (Sz (k.block _ Q) H.out);clear a6 a7 a8 a9 U K w;rcases df (h<|au a.s b)with f|f
   .have t:=J f;rw[f];clear f;go_wp21;go_call arv (b+1) _ (by first|omega|exact Mr b _ rfl Q) _ Q as i l ⟨A,B,rfl,a2,c⟩;have u:=y.below c s;have W:=u;have X:=C.trans (c.mono Q);have aD:=ew s c.size;have Z:=J (Sz (c.block _ Q) D.out);obtain⟨aA,aC,aG,aH,aI,aJ,_⟩:=u.cell b M;clear c u;go_wp21;go_roundw
    case rel=>
     refine⟨b+1,Q,qJ,W.next M<|by rw[t.out];simpa[F.out]using a2,(X.setCell qD _).setCell qD _,by rw[kg,kg];omega,Sz ?_ Z.out⟩;rw[er _ _ _ _ qD,er _ _ _ _ qD]
    simp[intOf];omega
   have t:=J f;rw[f];clear f;go_wp21;go_roundw
   case rel=>
    refine⟨b+1,Q,qJ,y.cast<|λe L g=> ?_,C,s,D.out⟩;unfold upto;by_cases i:e=b
    .subst i;simp[t.out]
    rw[show decide (e<b)=decide (e<b+1)from by rw[vv];simp;omega]
   simp[intOf];omega
 have s:b=a.s.size:=Q
 subst s;go_wp21;go_ret;have k:=j.size;exact⟨_,rfl,(Rw.one P.out Q Q rfl).cast (λt _ e L g=>by rw[upto,vv];simp),j.alloc k _⟩
end
section
attribute [local go_sem↓] Hn
def akv(d:Pp)(s o q A:Nat)(b:List Nat)(w:Nat->Nat->Nat->Prop)(l:Nat->Nat->Nat->Nat->Bool)(D:Nat->Nat)(e:ae)(r:pz e d s l D)(aD:o<=e.heap.size)(aE:o<=d.vb+1)
  (T:∀a,a<s->Tl d.s.size (l a 0) (w a)) (aF:2<=b.length) (aL:b.length<=A) (aN:b.length<=1000) (y:∀(c j:Nat),b[c]?=some j->e.cell? (O q c)=some (I j)) (B:∀j∈b,j<s):
  Calls prog 106 #[.pointer<|some ⟨d.tb,0,none⟩,.slice (some ⟨q,0,none⟩) b.length A] e λf W=>∃V,f=.returned (.slice (some ⟨V,0,none⟩) 1 1)/\∃g,Rw W o V 1 d.s.size (λ_=>g)/\Tl d.s.size g (λh i=>∃a∈b,w a h i)/\Below e.heap.size e W:=by
 have Z:=J y;have a1:=J B;have qa:=J T;obtain⟨p,k⟩:∃a,b[0]?=some a:=⟨_,dy Q⟩;have aA:=y 0 p k;have a2:q<e.heap.size:=dw e _ aA;have a3:=J k;have X:=r.js;have U:=B p<|qy k;go_in;go_wp21;go_call Jh as f H ⟨m,v,rfl,aM,C,P⟩;subst H;have aI:¬A=1:=Q
 have aC:((b.length-1:Nat):Int)=b.length-1:=Q
 go_wp21;go_loopw [5,16] (λaB L wr=>∃(c m v:Nat)(g:Nat->Nat->Bool),c+1<=b.length/\L=I c/\aB= aa m (d.s.size+1) v/\Y (o<=m)/\Y (fx wr m d.s.size g)/\Y (Tl d.s.size g (λh i=>∃a∈b.take (c+1),w a h i))/\Y (Below e.heap.size e wr)) (λ_ L _=>b.length-(intOf L).toNat)
 case atStart=>
  refine⟨0,m,v,l p 0,Q,rfl,rfl,by show o<=m;omega,C,λh t i=>?_,bp _ _⟩;rw[qa.out p U h t i];have:b.take 1=[p]:=by
   rw[yyu Q];have f:=a3.out;rw[dy Q]at f;simpa using f
  simp[this]
 obtain⟨c,a9,a4,g,aO,rfl,rfl,a5,R,x,k⟩:=hrel;by_cases K:c+1<b.length
 .obtain⟨a,u⟩:∃a,b[c+1]?=some a:=⟨_,dy K⟩;have a0:=J u;have M:=a1 a<|qy u;have aP:wr.cell? (O q<|1+c)=some (I a):=by
   rw[yzq];exact(ac (c+1)<|k.block _ a2).trans<|Z (c+1) a u
  go_wp21;go_call Jh d s a l D _ (r.below k.out) M as f H ⟨g2,a7,rfl,aJ,C,P⟩;subst H;go_wp21;go_call ank d.s.size a9 g2 a4 a7 _ g (l a 0) X R.out C as f H ⟨S,rfl,aK,E,F⟩;have a6:=k.trans<|F.mono k.size;have u:=k.size;go_wp21;go_roundw
  case rel=>
   refine⟨c+1,S,d.s.size+1,_,Q,qJ,rfl,by show o<=S;omega,E,λh t i=>?_,a6⟩;have f:=a0.out;rw[dy K]at f;have a8:b[c+1]=a:=qK f
   rw[yyu K,a8,uz,x.out h t i,qa.out a M h t i];constructor
   .rintro(⟨j,n,z⟩|z)
    .exact⟨j,yxd _ n,z⟩
    exact⟨a,qD,z⟩
   rintro⟨j,n,z⟩;obtain n|n:=og.1 n
   .exact .inl ⟨j,n,z⟩
   simp at n;subst n;exact .inr z
  simp[intOf];omega
 have M:c+1=b.length:=Q
 go_wp21;go_ret;have u:=k.size;exact⟨_,rfl,g,Rw.one R Q a5 rfl,by rw[M,yzc]at x;exact x,k.alloc u _⟩
end
section
def MR(a b:af):Sem af:=Instr.makeSlice 152 a b
def Ru:Instr.makeSlice 152 V X=MR V X:=rfl
attribute [local go_sem↓] Ru
def aps:(prog.info? 155).map (λa=>(a.zero,a.size,a.bytes))=some (some<|.slice none 0 0,1,24):=qF
def Xp(l:i<=100000:=by omega):∃c:Array af,(∀b,b<i->c[b]?=some (.slice none 0 0))/\∀a,(MR (I i)<|I i).run prog a=.ok (aa a.heap.size i i) (a.alloc<|.cells c 155):=by
 let⟨h,d,e,f,g⟩:=yyf aps;refine⟨madeCells (Value.slice none 0 0).cells<|i*1,λb m=>Pj _ _ ?_ ?_ _ b,λa=> ?_⟩
 .intro k j
  have:k=0:=by simp[Value.cells]at j;omega
  subst this;rfl
 .simp[Value.cells]
 have:=yxt (P:=prog) a 152 155 h _ underlying152 d e .i64 .i64 i i Q (yzw _) (by rw[g];omega) Q;rw[f]at this;rw[<-Ru];simpa using this
structure Hf(w:ae)(lo r n L k:Nat)(T:Nat->Nat->Nat->Bool):Prop where
 lr:lo<=r
 slot:∀q,q<n->(∃v,w.cell? (O r q)=some v)/\w.frozen? (O r q)=false
 H:∀q,k<=q->q<n->∃g c,w.cell? (O r q)=some (aa g (L+1) c)/\lo<=g/\g≠r/\fx w g L (T q)
def Hf.made{f:Array af}{h:TypeId}{i:Nat->Nat->Nat->Bool}(k:∀e,e<c->f[e]?=some (.slice none 0 0))(g:w.heap[b]?=some (.cells f h))(j:a<=b:=by omega):Hf w a b c d c i:=by
 refine⟨j,λe l=>⟨⟨.slice none 0 0,?_⟩,?_⟩,λe m n=>Q⟩
 .rw[yya _ b e f h (0,0) g];exact k _ l
 simp[World.frozen?,g]
def Hf.lt{f:Nat->Nat->Nat->Bool}(i:Hf w a b c d e f)(g:0<c:=by omega):b<w.heap.size:=by
 let⟨⟨j,h⟩,_⟩:=i.slot 0 g;exact dw w _ h
def Hf.below{b f:ae}{n c o i m:Nat}{j:Nat->Nat->Nat->Bool}(h:Hf b n c o i m j)(g:Below b.heap.size b f):Hf f n c o i m j:=by
 have k:∀a d,b.cell? (O c a)=some d->f.cell? (O c a)=some d:=λa d e=>(ac a<|g.block _<|dw b _ e).trans e
 refine⟨h.lr,λa r=> ?_,λa s t=> ?_⟩
 .let⟨⟨d,e⟩,l⟩:=h.slot a r;exact⟨⟨d,k a d e⟩,(ad a<|g.block _<|dw b _ e).trans l⟩
 let⟨q,p,u,v,w,l⟩:=h.H a s t;exact⟨q,p,k a _ u,v,w,l.below g l.lt⟩
def Hf.put{j d k e b a c:Nat}{l:Nat->Nat->Nat->Bool}(h:Hf w j d k e (b+1) l)(C:b<k)(D:fx w a e B)(E:j<=a:=by omega)(o:a≠d:=by omega):
  Hf (w.setCell (O d b)<|aa a (e+1) c) j d k e b (λq=>if q=b then B else l q):=by
 have p:∀{m n:Nat},m≠n->((O d m):Addr)≠(O d n):=λA f=>A<|by injection f
 refine⟨h.lr,λq F=> ?_,λq r i=> ?_⟩
 .let⟨⟨u,g⟩,s⟩:=h.slot q F;refine⟨?_,by rw[jf];exact s⟩;by_cases f:q=b
  .subst f;exact⟨_,qz _ _ _ g⟩
  exact⟨u,by rw[jm (h:=p Q)];exact g⟩
 by_cases f:q=b
 .subst f;let⟨⟨u,g⟩,s⟩:=h.slot q C;exact⟨a,c,qz _ _ _ g,E,o,by rw[G rfl];exact D.cw<|er _ _ _ _ o⟩
 let⟨H,v,x,y,t,z⟩:=h.H q Q i;exact⟨H,v,by rw[jm (h:=p Q)];exact x,y,t,by rw[N f];exact z.cw<|er _ _ _ _ t⟩
def Hf.rw{e:Nat->Nat->Nat->Bool}(f:Hf w a b c d 0 e)(g:0<c:=by omega):Rw w a b c d e:=
 ⟨f.lr,g,λn h=>by let⟨m,i,j,k,_,l⟩:=f.H n (ey _) h;exact⟨m,i,j,k,l⟩⟩
def Tl.then{i j:Nat->Nat->Bool}{g k:Nat->Nat->Prop}(l:Tl a i g)(m:Tl a j k)(n:nj a g):Tl a (λc d=>ow i j c c (a+1) d) (λc d=>∃b,g c b/\k b d):=by
 intro c h d
 simp only;rw[Wo];constructor
 .rintro⟨b,o,p,e,f⟩;exact⟨b,(l c h b).1 e,(m b Q d).1 f⟩
 rintro⟨b,e,f⟩;have:=n c b h e;exact⟨b,Q,Q,(l c h b).2 e,(m b Q d).2 f⟩
def apf(f:Pp)(o l p D:Nat)(a:List Nat)(k:Nat->Nat->Nat->Prop)(r:Nat->Nat->Nat->Nat->Bool)(T:Nat->Nat)(d:ae)(n:pz d f o r T)(a2:l<=d.heap.size)(aK:l<=f.vb+1)
  (qa:∀e,e<o->Tl f.s.size (r e 0) (k e)) (B:∀e,e<o->nj f.s.size (k e)) (aX:a.length<=D) (aY:a.length<=1000) (E:∀(c u:Nat),a[c]?=some u->d.cell? (O p c)=some (I u)) (K:∀u∈a,u<o):
  Calls prog 105 #[.pointer<|some ⟨f.tb,0,none⟩,.slice (some ⟨p,0,none⟩) a.length D] d λh V=>∃U,h=.returned (.slice (some ⟨U,0,none⟩) (a.length+1)<|a.length+1)/\∃j,Rw V l U (a.length+1) f.s.size j/\(∀c,c<=a.length->Tl f.s.size (j c) (ku<|(a.map k).drop c))/\Below d.heap.size d V:=by
 have Z:=J E;have a3:=J K;have a0:=J qa;have a4:=J B;have S:=n.js;have aL:=n.kn;have aM:=n.ko;have aC:=n.c3;have aN:f.tb<d.heap.size:=dw d _ aC;obtain⟨aJ,b,i⟩:=Xp (a.length+1) Q;rw[show((a.length+1:Nat):Int)=a.length+1 from Q]at i;have W:=J b;clear E K qa b B;go_in;go_wp21;go_call Ol f.s.size _ S as h aH ⟨g,rfl,R,H,s⟩;replace R:d.heap.size+1<=g:=qK R
 have a5:=((bp _ _).alloc ah _).trans (s.mono qD);have hF:Hf aH l d.heap.size (a.length+1) f.s.size (a.length+1) (λ_ _ _=>false):=(Hf.made W.out (yyb d _) a2).below s;have X:=hF;obtain⟨⟨b1,s1⟩,s2⟩:=hF.slot a.length Q;clear s i hF;go_wp21;go_loopw [6] (λA wr=>∃(i:Int)(j:Nat->Nat->Nat->Bool),-1<=i/\i<(a.length:Int)/\A=I i/\Y (Hf wr l d.heap.size (a.length+1) f.s.size (i+1).toNat j)/\Y (∀c:Nat,i<(c:Int)->c<=a.length->Tl f.s.size (j c) (ku<|(a.map k).drop c))/\Y (Below d.heap.size d wr)) (λA _=>(intOf A+1).toNat)
 case atStart=>
  have b:=X.put (c:=f.s.size+1) Q H Q Q;refine⟨(a.length:Int)-1,_,Q,Q,rfl,by rw[show((a.length:Int)-1+1).toNat=a.length from Q];exact b,λc aG P=> ?_,a5.setCell ah _⟩;obtain rfl:c=a.length:=Q
  rw[G rfl,List.drop_of_length_le qD];intro q m t
  simp only[ku,ra];exact eq_comm
 obtain⟨i,j,aO,aP,rfl,y,z,m⟩:=hrel;by_cases aQ:0<=i
 .obtain⟨b,rfl⟩:∃b:Nat,i=b:=⟨i.toNat,Q⟩;have x:b<a.length:=Q
  obtain⟨e,q⟩:∃e,a[b]?=some e:=⟨_,dy x⟩;have a1:=J q;have v:=a3.out e<|qy q;have w:=Z.out b e q;have a6:p<d.heap.size:=dw d _ w;have aZ:=(ac b<|m.block _ a6).trans w;have t:Y (Hf wr l d.heap.size (a.length+1) f.s.size (b+1) j):=by
   have h:=y.out;rw[show((b:Int)+1).toNat=b+1 from Q]at h;exact h
  obtain⟨aE,a7,aV,F,aW,aD⟩:=t.H (b+1) ah Q;obtain⟨⟨b2,s3⟩,s4⟩:=t.slot b Q;have a8:=(n.below m.out).below (bp wr.heap.size wr).drew;have aR:IntKind.i64.wrap ((b:Int)+1)=(b:Int)+1:=Mr b (b+1) rfl Q;have a9:(b:Int)+1<(a.length:Int)+1:=Q
  have aS:(0:Int)<=b+1:=Q
  clear q w y;go_wp21;go_region_with (first
   |(go_at_call 66;(go_call Jh f o e r T _ a8 v as h aI ⟨g2,aB,rfl,aT,H,a9⟩;subst aI))
   |(go_at_call 155;(go_call Yu f.s.size g2 aE aB a7 _ (r e 0) (j<|b+1) S H (aD.cw rfl)as h w3 ⟨aF,rfl,C,L,M⟩;have w:=(bp wr.heap.size wr).drew.trans M;have q:=t.below w;have aA:=q;obtain⟨⟨b3,s5⟩,b0⟩:=q.slot b Q;replace C:wr.heap.size<=aF:=C;clear M q)))
  all_goals
   go_wp21;go_roundw
   case rel=>
    have q:=m.size;have aU:=t.lt Q;refine⟨(b:Int)-1,_,Q,Q,qJ,by rw[show((b:Int)-1+1).toNat=b from Q];exact aA.put Q L Q Q,λc aG P=> ?_,(m.trans<|w.mono q).setCell ah _⟩;by_cases h:c=b
    .subst h;rw[G rfl];have hd:(a.map k).drop c=k e::(a.map k).drop (c+1):=by
      have h:=a1.out;rw[dy x]at h;have F:a[c]=e:=qK h
      rw[Dn<|qK x];simp[F]
     rw[hd];exact(a0.out e v).then (z.out (c+1) Q Q) (a4.out e v)
    rw[N h];exact z.out c Q P
   simp[intOf]<;>omega
 have b:i=-1:=Q
 subst b;go_wp21;go_ret;exact⟨_,rfl,j,y.rw Q,λc q=>z.out c Q q,m.out⟩
end
def Zt(R:Nat->Nat->Prop)(lo:Nat)(hi:Int)(q i j:Nat):Prop:=un R lo hi q (λk=>k=i) j
def Ae:Zt C a p b c d↔∃f e:Nat,Pow C (a-b) c f/\(e=0\/p<0\/((max b a:Nat):Int)+e<=p)/\Pow (Full C) e f d:=by
 unfold Zt un;constructor
 .rintro⟨h,f,e,rfl,g⟩;exact⟨f,e,g⟩
 rintro⟨f,e,g⟩;exact⟨c,f,e,rfl,g⟩
def Js(l:b<a:=by omega):Zt C a p b c d↔∃e,C c e/\Zt C a p (b+1) e d:=by
 rw[Ae];rw[show a-b=(a-(b+1))+1 from Q,show max b a=a from Q];constructor
 .rintro⟨e,k,⟨h,i,f⟩,g,j⟩;exact⟨h,i,Ae.2 ⟨e,k,f,by rw[show max (b+1) a=a from Q];exact g,j⟩⟩
 rintro⟨h,i,f⟩;let⟨e,k,f,g,j⟩:=Ae.1 f;rw[show max (b+1) a=a from Q]at g;exact⟨e,k,⟨h,i,f⟩,g,j⟩
def akg(i:a<=b)(g:p=(b:Int)):Zt C a p b c d↔c=d:=by
 rw[Ae];rw[show a-b=0 from Q,show max b a=b from Q];constructor
 .rintro⟨j,f,rfl,h,e⟩;obtain rfl:f=0:=Q
  exact e
 rintro rfl;exact⟨c,0,rfl,.inl rfl,rfl⟩
def aan(m:a<=b)(n:(b:Int)<p):Zt C a p b c d↔(c=d\/∃g,Full C c g/\Zt C a p (b+1) g d):=by
 rw[Ae];rw[show a-b=0 from Q,show max b a=b from Q];constructor
 .rintro⟨g,e,rfl,k,j⟩;cases e with
  |zero=>exact .inl j
  |succ e=>
   let⟨f,h,i⟩:=j;refine .inr ⟨f,h,Ae.2 ⟨f,e,?_,?_,i⟩⟩
   .rw[show a-(b+1)=0 from Q];rfl
   rw[show max (b+1) a=b+1 from Q];omega
 rintro(rfl|⟨f,h,i⟩)
 .exact⟨c,0,rfl,.inl rfl,rfl⟩
 let⟨g,e,j,k,l⟩:=Ae.1 i;rw[show a-(b+1)=0 from Q]at j;cases j
 rw[show max (b+1) a=b+1 from Q]at k;exact⟨c,e+1,rfl,Q,⟨f,h,l⟩⟩
def Jr(i:a<=b)(g:p<0):Zt C a p b c d↔∃e:Nat,Pow (Full C) e c d:=by
 rw[Ae];rw[show a-b=0 from Q];constructor
 .rintro⟨j,e,rfl,h,f⟩;exact⟨e,f⟩
 rintro⟨e,f⟩;exact⟨c,e,rfl,.inr<|.inl g,f⟩
def Tl.again{m j:Nat->Nat->Bool}(n:Tl a m C)(r:nj a C)(s:Zk a m j):Tl a j (λb c=>∃d,Pow (Full C) d b c):=by
 have q:∀i b,b<=a->a-b<i->∀c,(j b c=true↔∃d,Pow (Full C) d b c):=by
  intro i
  induction i with
  |zero=>intro b _ l;omega
  |succ i o=>
   intro b f u c
   rw[s b f c,uz,Wo];constructor
   .rintro(l|⟨e,p,t,g,k⟩)
    .have:c=b:=qK l
     subst this;exact⟨0,rfl⟩
    let⟨d,h⟩:=(o e Q Q c).1 k;exact⟨d+1,e,⟨(n b f e).1 g,Q⟩,h⟩
   rintro⟨d,h⟩;cases d with
   |zero=>left;cases h;simp
   |succ d=>
    let⟨e,⟨g,k⟩,p⟩:=h;have t:=r b e f g;exact .inr ⟨e,Q,Q,(n b f e).2 g,(o e Q Q c).2 ⟨d,p⟩⟩
 exact λb f c=>q (a+1) b f Q c
def Tl.maybe{j k:Nat->Nat->Bool}{g l:Nat->Nat->Prop}(m:Tl a j g)(n:Tl a k l)(o:nj a g):Tl a (λb d=>(d==b)||ow j k b (b+1) (a+1) d) (λb d=>b=d\/∃c,Full g b c/\l c d):=by
 intro b h d
 simp only[uz];rw[Wo];constructor
 .rintro(i|⟨c,p,q,e,f⟩)
  .have:d=b:=qK i
   exact .inl this.symm
  exact .inr ⟨c,⟨(m b h c).1 e,Q⟩,(n c Q d).1 f⟩
 rintro(i|⟨c,⟨e,p⟩,f⟩)
 .left;simp[i]
 have:=o b c h e;exact .inr ⟨c,Q,Q,(m b h c).2 e,(n c Q d).2 f⟩
def Tl.iff{d e:Nat->Nat->Prop}(h:Tl a B d)(g:∀b c,d b c↔e b c):Tl a B e:=λb f c=>(h b f c).trans<|g b c
def Tl.empty:Tl a (λb c=>c==b) (λb c=>b=c):=λb d c=>by simp only[ra];exact eq_comm
section
attribute [local go_sem↓] Ru
def Bd(w:ae)(b:Nat)(ll hi:Int):Prop:=w.cell? (O b 7)=some (I ll)/\w.cell? (O b 8)=some (I hi)
def Bd.of(d:Bd w a p D)(e:u.heap[a]?=w.heap[a]?):Bd u a p D:=by
 have c:∀b,u.cell? (O a b)=w.cell? (O a b):=λb=>ac b e
 exact⟨(c 7).trans d.1,(c 8).trans d.2⟩
def atk(c:Pp)(w l k u d a m n o p:Nat)(q r:Int)(s:Nat->Nat->Nat->Prop)(t:Nat->Nat->Nat->Nat->Bool)(a0:Nat->Nat)(b:ae)(v:pz b c w t a0)(aT:l<=b.heap.size)(aU:l<=c.vb+1)
  (W:∀d,d<w->Tl c.s.size (t d 0) (s d)) (M:∀d,d<w->nj c.s.size (s d)) (a9:b.cell? (O k 0)=some (I d)) (H:d<w) (aV:a<=a) (aW:a<=9):
  Calls prog 104 #[.pointer<|some ⟨c.tb,0,none⟩,.agg #[.int .i64 q,.slice (some ⟨k,0,none⟩) 1 u,.int .u64 m,.int .u64 n,.int .u64 o,.int .u64 p,.int .i64 r,.int .i64 a,.int .i64<|-1]] b λg a4=>∃a1,g=.returned (.slice (some ⟨a1,0,none⟩) (a+1)<|a+1)/\∃i,Rw a4 l a1 (a+1) c.s.size i/\(∀e,e<=a->Tl c.s.size (i e) (Zt (s d) a (-1) e))/\Below b.heap.size b a4:=by
 have L:=J<|W d H;have P:=J<|M d H;have Z:=v.js;have aX:=v.kn;have aY:=v.ko;have f:=v.c3;have aD:=J f;have aE:c.tb<b.heap.size:=dw b _ f;have aZ:k<b.heap.size:=dw b _ a9;obtain⟨a5,h,x⟩:=Xp (a+1) Q;rw[show((a+1:Nat):Int)=a+1 from Q]at x;have a6:=J h;clear W h M;go_in;go_wp21;have F:Bd (b.alloc<|.cells #[I q, aa k 1 u,.int .u64 m,.int .u64 n,.int .u64 o,.int .u64 p,I r,I a,I<|-1] 151) b.heap.size a (-1):=⟨qI,qI⟩;have z:Below b.heap.size b (b.alloc<|.cells #[I q, aa k 1 u,.int .u64 m,.int .u64 n,.int .u64 o,.int .u64 p,I r,I a,I<|-1] 151):=(bp _ _).alloc ah _;have qa:(b.alloc<|.cells #[I q, aa k 1 u,.int .u64 m,.int .u64 n,.int .u64 o,.int .u64 p,I r,I a,I<|-1] 151).heap.size=b.heap.size+1:=qD
 generalize(b.alloc<|.cells #[I q, aa k 1 u,.int .u64 m,.int .u64 n,.int .u64 o,.int .u64 p,I r,I a,I<|-1] 151)=j at F z qa;have aA:=J F;obtain⟨h,y⟩:=F;go_call Jh c w d t a0 _ (v.below z) H as g V ⟨g2,T,rfl,b0,hS,b1⟩;subst V;have a2:=hS.lt;have h:=(ac 3<|z.block _ aE).trans aD.out;clear f;go_wp21;go_call akq c.s.size g2 T _ (t d 0) Z (hS.below ((bp j.heap.size j).alloc ah _) a2)as g V ⟨aP,rfl,X,a8,aB,aF,B⟩;have R:=((bp _ _).alloc ah _).trans (B.mono qD);have hF:Hf V l (b.heap.size+1) (a+1) c.s.size (a+1) (λ_ _ _=>false):=(Hf.made a6.out (by have:=yyb j<|.cells a5 155;rw[qa]at this;exact this) Q).below B;have a7:=hF;have b2:j.heap.size+1<=aP:=qK X
 have aG:Y (Tl c.s.size a8<|Zt (s d) a (-1) a):=((L.again P.out aF).iff λaR aS=>(Jr ah Q).symm);obtain⟨⟨bI,s1⟩,s2⟩:=hF.slot a Q;have a3:=J (aA.of<|R.block _ Q);obtain⟨aH,aI⟩:=a3.out;clear B x hF h y;go_wp21;go_loopw [8] (λK wr=>∃(h:Int)(i:Nat->Nat->Nat->Bool),-1<=h/\h<(a:Int)/\K=I h/\Y (Hf wr l (b.heap.size+1) (a+1) c.s.size (h+1).toNat i)/\Y (∀e:Nat,h<(e:Int)->e<=a->Tl c.s.size (i e) (Zt (s d) a (-1) e))/\Y (Below j.heap.size j wr)/\Y (Bd wr b.heap.size a<|-1)) (λK _=>(intOf K+1).toNat)
 case atStart=>
  have f:=a7.put (c:=c.s.size+1) Q aB Q Q;refine⟨(a:Int)-1,_,Q,Q,rfl,by rw[show((a:Int)-1+1).toNat=a from Q];exact f,λe aQ U=>?_,R.setCell qC _,a3.of<|er _ _ _ _ qC⟩;obtain rfl:e=a:=Q
  rw[G rfl];exact aG.out
 obtain⟨h,i,b3,b4,rfl,A,C,x,S⟩:=hrel;by_cases b5:0<=h
 .obtain⟨f,rfl⟩:∃f:Nat,h=f:=⟨h.toNat,Q⟩;have bG:f<a:=Q
  have y:Y (Hf wr l (b.heap.size+1) (a+1) c.s.size (f+1) i):=by
   have g:=A.out;rw[show((f:Int)+1).toNat=f+1 from Q]at g;exact g
  obtain⟨aO,aJ,bA,bD,bE,aN⟩:=y.H (f+1) ah Q;have aK:=hS.below x.out a2;obtain⟨⟨bJ,s3⟩,s4⟩:=y.slot f Q;obtain⟨b6,b7⟩:=S.out;have aL:=x.size;have b8:=y.lt Q;clear A aH aI s1 s2;go_wp21;go_call Yu c.s.size g2 aO T aJ _ (t d 0) (i<|f+1) Z aK aN as g w3 ⟨bF,rfl,b9,aC,E⟩;have D:=y.below E;have aM:=D;obtain⟨⟨bK,s5⟩,bH⟩:=D.slot f Q;clear D;go_wp21;go_roundw
  case rel=>
   refine⟨(f:Int)-1,_,Q,Q,qJ,by rw[show((f:Int)-1+1).toNat=f from Q];exact aM.put Q aC Q Q,λe aQ U=>?_,(x.trans<|E.mono aL).setCell qC _,(S.of<|E.block _ Q).of<|er _ _ _ _ qC⟩;by_cases g:e=f
   .subst g;rw[G rfl];exact(L.then (C.out (e+1) Q Q) P.out).iff λaR aS=>(Js Q).symm
   rw[N g];exact C.out e Q U
  simp[intOf]<;>omega
 have f:h=-1:=Q
 subst f;go_wp21;go_ret;exact⟨_,rfl,i,A.rw Q,λe y=>C.out e Q y,z.trans<|x.mono Q⟩
def atl(f:Pp)(B n l z g i a q r s t:Nat)(u w:Int)(v:Nat->Nat->Nat->Prop)(x:Nat->Nat->Nat->Nat->Bool)(aF:Nat->Nat)(b:ae)(A:pz b f B x aF)(b0:n<=b.heap.size)(b1:n<=f.vb+1)
  (aD:∀g,g<B->Tl f.s.size (x g 0) (v g)) (a1:∀g,g<B->nj f.s.size (v g)) (aL:b.cell? (O l 0)=some (I g)) (S:g<B) (aP:i<=a) (b2:a<=9):
  Calls prog 104 #[.pointer<|some ⟨f.tb,0,none⟩,.agg #[.int .i64 u,.slice (some ⟨l,0,none⟩) 1 z,.int .u64 q,.int .u64 r,.int .u64 s,.int .u64 t,.int .i64 w,.int .i64 i,.int .i64 a]] b λh aH=>∃aG,h=.returned (.slice (some ⟨aG,0,none⟩) (a+1)<|a+1)/\∃j,Rw aH n aG (a+1) f.s.size j/\(∀e,e<=a->Tl f.s.size (j e) (Zt (v g) i (a:Int) e))/\Below b.heap.size b aH:=by
 have a0:=J<|aD g S;have a2:=J<|a1 g S;have T:=A.js;have b3:=A.kn;have b4:=A.ko;have c:=A.c3;have aQ:=J c;have aR:f.tb<b.heap.size:=dw b _ c;have b5:l<b.heap.size:=dw b _ aL;obtain⟨aI,k,m⟩:=Xp (a+1) Q;rw[show((a+1:Nat):Int)=a+1 from Q]at m;have aJ:=J k;clear aD k a1;go_in;go_wp21;have U:Bd (b.alloc<|.cells #[I u, aa l 1 z,.int .u64 q,.int .u64 r,.int .u64 s,.int .u64 t,I w,I i,I a] 151) b.heap.size i (a:Int):=⟨qI,qI⟩;have E:Below b.heap.size b (b.alloc<|.cells #[I u, aa l 1 z,.int .u64 q,.int .u64 r,.int .u64 s,.int .u64 t,I w,I i,I a] 151):=(bp _ _).alloc ah _;have a3:(b.alloc<|.cells #[I u, aa l 1 z,.int .u64 q,.int .u64 r,.int .u64 s,.int .u64 t,I w,I i,I a] 151).heap.size=b.heap.size+1:=qD
 generalize(b.alloc<|.cells #[I u, aa l 1 z,.int .u64 q,.int .u64 r,.int .u64 s,.int .u64 t,I w,I i,I a] 151)=o at U E a3;have aM:=J U;obtain⟨k,p⟩:=U;go_call Jh f B g x aF _ (A.below E) S as h W ⟨g2,a9,rfl,b6,hS,b7⟩;subst W;have aN:=hS.lt;have b8:=(ac 3<|E.block _ aR).trans aQ.out;clear c;go_wp21;go_call Ol f.s.size _ T as h W ⟨aX,rfl,aO,Z,H⟩;obtain⟨R,a4⟩:∃R:Nat->Nat->Bool,R=λK L=>L==K:=⟨_,rfl⟩
 rw[<-a4]at Z;have a5:=((bp _ _).alloc ah _).trans (H.mono qD);have hF:Hf W n (b.heap.size+1) (a+1) f.s.size (a+1) (λ_ _ _=>false):=(Hf.made aJ.out (by have:=yyb o<|.cells aI 155;rw[a3]at this;exact this) Q).below H;have aK:=hF;have b9:o.heap.size+1<=aX:=qK aO
 have aS:Y (Tl f.s.size R<|Zt (v g) i (a:Int) a):=(by rw[a4];exact Tl.empty.iff λK L=>(akg aP rfl).symm);obtain⟨⟨bM,s1⟩,s2⟩:=hF.slot a Q;have X:=J (aM.of<|a5.block _ Q);obtain⟨aT,aU⟩:=X.out;clear H m hF k p;go_wp21;go_loopw [8] (λV wr=>∃(k:Int)(j:Nat->Nat->Nat->Bool),-1<=k/\k<(a:Int)/\V=I k/\Y (Hf wr n (b.heap.size+1) (a+1) f.s.size (k+1).toNat j)/\Y (∀e:Nat,k<(e:Int)->e<=a->Tl f.s.size (j e) (Zt (v g) i (a:Int) e))/\Y (Below o.heap.size o wr)/\Y (Bd wr b.heap.size i (a:Int))) (λV _=>(intOf V+1).toNat)
 case atStart=>
  have c:=aK.put (c:=f.s.size+1) Q Z Q Q;refine⟨(a:Int)-1,_,Q,Q,rfl,by rw[show((a:Int)-1+1).toNat=a from Q];exact c,λe aC F=>?_,a5.setCell qC _,X.of<|er _ _ _ _ qC⟩;obtain rfl:e=a:=Q
  rw[G rfl];exact aS.out
 obtain⟨k,j,bA,bD,rfl,M,C,p,P⟩:=hrel;by_cases bE:0<=k
 .obtain⟨c,rfl⟩:∃c:Nat,k=c:=⟨k.toNat,Q⟩;have bL:c<a:=Q
  have D:Y (Hf wr n (b.heap.size+1) (a+1) f.s.size (c+1) j):=by
   have h:=M.out;rw[show((c:Int)+1).toNat=c+1 from Q]at h;exact h
  obtain⟨aB,a6,bI,bJ,bK,aA⟩:=D.H (c+1) ah Q;have a7:=hS.below p.out aN;obtain⟨⟨bN,s3⟩,s4⟩:=D.slot c Q;obtain⟨bF,bG⟩:=P.out;have a8:=p.size;have bH:=D.lt Q;clear M aT aU s1 s2;by_cases aE:c<i
  .skip
   go_wp21;go_call Yu f.s.size g2 aB a9 a6 _ (x g 0) (j<|c+1) T a7 aA as h w3 ⟨aW,rfl,aV,y,d⟩;have m:=D.below d;have qa:=m;obtain⟨⟨aZ,s5⟩,aY⟩:=m.slot c Q;clear m;go_wp21;go_roundw
   case rel=>
    refine⟨(c:Int)-1,_,Q,Q,qJ,by rw[show((c:Int)-1+1).toNat=c from Q];exact qa.put Q y Q Q,λe aC F=>?_,(p.trans<|d.mono a8).setCell qC _,(P.of<|d.block _ Q).of<|er _ _ _ _ qC⟩;by_cases h:e=c
    .subst h;rw[G rfl];exact(a0.then (C.out (e+1) Q Q) a2.out).iff λK L=>(Js Q).symm
    rw[N h];exact C.out e Q F
   simp[intOf]<;>omega
  skip
  go_wp21;go_call aqv f.s.size g2 aB a9 a6 _ (x g 0) (j<|c+1) T a7 aA as h w3 ⟨aW,rfl,aV,y,d⟩;have m:=D.below d;have qa:=m;obtain⟨⟨aZ,s5⟩,aY⟩:=m.slot c Q;clear m;go_wp21;go_roundw
  case rel=>
   refine⟨(c:Int)-1,_,Q,Q,qJ,by rw[show((c:Int)-1+1).toNat=c from Q];exact qa.put Q y Q Q,λe aC F=>?_,(p.trans<|d.mono a8).setCell qC _,(P.of<|d.block _ Q).of<|er _ _ _ _ qC⟩;by_cases h:e=c
   .subst h;rw[G rfl];exact(a0.maybe (C.out (e+1) Q Q) a2.out).iff λK L=>(aan Q Q).symm
   rw[N h];exact C.out e Q F
  simp[intOf]<;>omega
 have c:k=-1:=Q
 subst c;go_wp21;go_ret;exact⟨_,rfl,j,M.rw Q,λe aE=>C.out e Q aE,E.trans<|p.mono Q⟩
end
structure ww(n eu:Nat)(d:Nd):Prop where
 k6:d.R<=6
 sub:∀x∈d.ba,x<n
 one:d.R=3\/d.R=6->∃x,d.ba=[x]
 two:d.R=4\/d.R=5->2<=d.ba.length/\d.ba.length<=1000
 Hc:d.R=6->d.lo<=9/\d.hi<=9/\(d.hi=-1\/(d.lo:Int)<=d.hi)
 num:d.R=3->d.num<eu
def Rel(s:ag)(R:Nat->Nat->Nat->Prop)(d:Nd)(i j:Nat):Prop:=
 if d.R=0 then i<s.size/\d.set (au s i)=true/\j=i+1
 else if d.R=1 then i=0/\j=i
 else if d.R=2 then i=s.size/\j=i
 else if d.R=5 then ku (d.ba.map R) i j
 else if d.R=6 then Bg (R<|d.ba.getD 0 0) d.lo d.hi i j
 else∃x∈d.ba,R x i j
def qi(d:Nd):Nat:=if d.hi<0 then d.lo else d.hi.toNat
structure Cn(s:ag)(R:Nat->Nat->Nat->Prop)(d:Nd)(m:Nat)(U:Nat->Nat->Nat->Bool):Prop where
 whole:Tl s.size (U 0) (Rel s R d)
 row:d.R=5->m=d.ba.length+1/\∀q,q<=d.ba.length->Tl s.size (U q) (ku<|(d.ba.map R).drop q)
 Hc:d.R=6->m=qi d+1/\∀q,q<=qi d->Tl s.size (U q) (Zt (R<|d.ba.getD 0 0) d.lo d.hi q)
def Se(i:p<0\/(a:Int)<=p)(g h:Nat):Zt C a p 0 g h↔Bg C a p g h:=by
 rw[Ae];rw[Bg,zyi,show max 0 a=a from Q];constructor
 .rintro⟨d,e,b,f,c⟩;exact⟨d,e,b,Q,c⟩
 rintro⟨d,e,b,f,c⟩;exact⟨d,e,b,.inr f,c⟩
def av0(g:Pp)(s D aJ:Nat)(a:Nd)(a4:Option Addr)(B E F H L:Nat)(K:Nat->Nat->Nat->Prop)(y:Nat->Nat->Nat->Nat->Bool)(P:Nat->Nat)(e:ae)(C:pz e g s y P)(aQ:D<=e.heap.size)(a2:D<=g.vb+1)
  (aF:∀j,j<s->Tl g.s.size (y j 0) (K j)) (aD:∀j,j<s->nj g.s.size (K j)) (hd:ww s aJ a) (aL:S4 E F H L a.set) (aE:Kids e g.vb a4 a.ba) (a5:a.ba.length<=B):
  Calls prog 65 #[.pointer<|some ⟨g.tb,0,none⟩,.agg #[.int .i64<|jr a.R,.slice a4 a.ba.length B,.int .u64 E,.int .u64 F,.int .u64 H,.int .u64 L,.int .i64<|na a,.int .i64 a.lo,.int .i64 a.hi]] e
   λd aI=>∃p a6,d=.returned (.slice (some ⟨p,0,none⟩) a6 a6)/\∃n,Rw aI D p a6 g.s.size n/\Cn g.s K a a6 n/\Below e.heap.size e aI:=by
 have V:=J aF;have a8:=J aD;have R:=J aE;have aP:=C.js;have aK:=C.c3;have aR:g.tb<e.heap.size:=dw e _ aK;have aS:=hd.k6;have c:Below e.heap.size e (e.alloc<|.cells #[I<|jr a.R,.slice a4 a.ba.length B,.int .u64 E,.int .u64 F,.int .u64 H,.int .u64 L,I<|na a,I a.lo,I a.hi] 151):=(bp _ _).alloc ah _;have v:(e.alloc<|.cells #[I<|jr a.R,.slice a4 a.ba.length B,.int .u64 E,.int .u64 F,.int .u64 H,.int .u64 L,I<|na a,I a.lo,I a.hi] 151).heap.size=e.heap.size+1:=qD
 clear aF aD aE;obtain f|f|f|f|f:(a.R=0\/a.R=1\/a.R=2)\/a.R=3\/a.R=4\/a.R=5\/a.R=6:=Q
 .obtain f|f|f:=f
  all_goals
   have b:=J f;first|rw[show jr a.R=2 from by rw[f];rfl]at c v|-|rw[show jr a.R=0 from by rw[f];rfl]at c v|-|rw[show jr a.R=1 from by rw[f];rfl]at c v|-
   clear f;go_in;go_wp21;first|(have:a.R=0:=b;go_call art g s D E F H L a.set y P _ (C.below c) aL Q as d r ⟨p,rfl,l,A⟩)|(have:a.R=1:=b;go_call ab4 g s 0 D y P _ (C.below c) (ey _) Q as d r ⟨p,rfl,l,A⟩)|go_call ab4 g s g.s.size D y P _ (C.below c) ah Q as d r ⟨p,rfl,l,A⟩
   have q:Y _:=l;have m:=c.trans (A.mono Q);clear l A;go_wp21;go_ret;refine⟨_,_,rfl,_,q,⟨λt x u=>?_,λd=>by have:=b.out;omega,λd=>by have:=b.out;omega⟩,m⟩;rw[Rel,b.out];simp;try omega
 .have b:=J f;obtain⟨j,k⟩:=hd.one<|.inl f;have a3:=J k;have U:=hd.sub j (by rw[k];simp);obtain S|⟨h,rfl,a9,o⟩:=R
  .rw[S]at k;cases k
  have a0:=o 0 j (by rw[k];rfl);have W:a.ba.length=1:=by rw[k];rfl
  rw[show jr a.R=3 from by rw[f];rfl]at c v|-;rw[W]at c v a5|-;have a7:=dw e _ a0;clear f o k W;go_in;go_wp21;go_call Jh g s j y P _ (C.below c) U as d r ⟨g2,X,rfl,qa,i,T⟩;subst r;have w:Y _:=i;clear i;go_wp21;go_ret;have v2:=v;simp only[I,O]at v2;refine⟨_,_,rfl,_,Rw.one w Q Q Q,⟨λt x u=>?_,λd=>by have:=b.out;omega,λd=>by have:=b.out;omega⟩,c.alloc Q _⟩;rw[Rel,b.out,a3.out];rw[V.out j U t x u];simp
 .have b:=J f;obtain⟨T,aA⟩:=hd.two<|.inl f;obtain S|⟨h,rfl,a9,o⟩:=R
  .rw[S]at T;simp at T
  have a1:∀(i w:Nat),a.ba[i]?=some w->(e.alloc<|.cells #[I<|jr a.R, aa h a.ba.length B,.int .u64 E,.int .u64 F,.int .u64 H,.int .u64 L,I<|na a,I a.lo,I a.hi] 151).cell? (O h i)=some (I w):=λi w Z=>(ac i<|c.block h<|dw e _<|o i w Z).trans<|o i w Z
  have X:Y _:=a1;rw[show jr a.R=6 from by rw[f];rfl]at c v X|-;clear f o a1;go_in;go_wp21;go_call akv g s D h B a.ba K y P _ (C.below c) Q a2 V T a5 aA X hd.sub as d r ⟨p,rfl,M,l,z,A⟩;have q:=J l;have qa:=J z;have m:=c.trans (A.mono Q);clear l A z;go_wp21;go_ret;refine⟨_,_,rfl,_,q,⟨λt x u=>?_,λd=>by have:=b.out;omega,λd=>by have:=b.out;omega⟩,m⟩;rw[Rel,b.out];exact qa t x u
 .have b:=J f;obtain⟨T,aA⟩:=hd.two<|.inr f;obtain S|⟨h,rfl,a9,o⟩:=R
  .rw[S]at T;simp at T
  have a1:∀(i w:Nat),a.ba[i]?=some w->(e.alloc<|.cells #[I<|jr a.R, aa h a.ba.length B,.int .u64 E,.int .u64 F,.int .u64 H,.int .u64 L,I<|na a,I a.lo,I a.hi] 151).cell? (O h i)=some (I w):=λi w Z=>(ac i<|c.block h<|dw e _<|o i w Z).trans<|o i w Z
  have X:Y _:=a1;rw[show jr a.R=5 from by rw[f];rfl]at c v X|-;clear f o a1;go_in;go_wp21;go_call apf g s D h B a.ba K y P _ (C.below c) Q a2 V a8 a5 aA X hd.sub as d r ⟨p,rfl,n,l,z,A⟩;have q:=J l;have qa:=J z;have m:=c.trans (A.mono Q);clear l A z;go_wp21;go_ret;refine⟨_,_,rfl,_,q,⟨λt x u=>?_,λd=>⟨rfl,qa⟩,λd=>by have:=b.out;omega⟩,m⟩;rw[Rel,b.out];exact qa 0 (ey _) t x u
 have b:=J f;obtain⟨j,k⟩:=hd.one<|.inr f;obtain⟨aO,aG,aH⟩:=hd.Hc f;have a3:=J k;have U:=hd.sub j (by rw[k];simp);obtain S|⟨h,rfl,a9,o⟩:=R
 .rw[S]at k;cases k
 have a0:=o 0 j (by rw[k];rfl);have W:a.ba.length=1:=by rw[k];rfl
 rw[show jr a.R=4 from by rw[f];rfl]at c v|-;rw[W]at c v a5|-;have a7:=dw e _ a0;clear f o k W;have aC:Y (∀(p:Nat)(r:ae)(n:Nat->Nat->Nat->Bool),(∀i,i<=qi a->Tl g.s.size (n i) (Zt (K j) a.lo a.hi i))->Cn g.s K a (qi a+1) n):=by
  intro p r n k
  refine⟨?_,λd=>by have:=b.out;omega,λd=>⟨rfl,by rw[a3.out];exact k⟩⟩;intro t x u
  rw[Rel,b.out,a3.out];rw[k 0 (ey _) t x u];exact Se Q t u
 by_cases a1:a.hi=-1
 .have o:Y (qi a=a.lo):=by rw[qi,G Q];rfl
  have aB:=J a1;rw[a1]at c v|-;clear a1 aG aH;go_in;go_wp21;go_call atk g s D h B j a.lo E F H L _ _ K y P _ (C.below c) Q a2 V a8 ((ac 0<|c.block h a7).trans a0) U ah aO as d r ⟨p,rfl,n,l,z,A⟩;have q:=J l;have qa:=J z;have m:=c.trans (A.mono Q);clear l A z;go_wp21;go_ret;refine⟨_,_,rfl,n,q,?_,m⟩;have:=aC p r n (by rw[o.out,aB.out];exact qa);rw[o.out]at this;exact this
 obtain⟨k,W⟩:∃k:Nat,a.hi=k:=⟨a.hi.toNat,Q⟩;have o:Y (qi a=k):=by rw[qi,N Q,W];rfl
 have aB:=J W;have aM:a.lo<=k:=Q
 have aN:k<=9:=Q
 rw[W]at c v|-;clear a1 aG aH W;go_in;go_wp21;go_call atl g s D h B j a.lo k E F H L _ _ K y P _ (C.below c) Q a2 V a8 ((ac 0<|c.block h a7).trans a0) U aM aN as d r ⟨p,rfl,n,l,z,A⟩;have q:=J l;have qa:=J z;have m:=c.trans (A.mono Q);clear l A z;go_wp21;go_ret;refine⟨_,_,rfl,n,q,?_,m⟩;have:=aC p r n (by rw[o.out,aB.out];exact qa);rw[o.out]at this;exact this
def Rf(c:i<2^64):∃b:Nat,bits .xor .u64 IntKind.u64.max i=b/\b<2^64/\∀a,a<64->b.testBit a= !i.testBit a:=by
 have e:IntKind.u64.max=((2^64-1:Nat):Int):=by decide
 refine⟨(BitVec.ofNat 64 (2^64-1)^^^BitVec.ofNat 64 i).toNat,?_,BitVec.isLt _,λa d=> ?_⟩
 .rw[e];exact wrap_u64 _<|BitVec.isLt _
 rw[BitVec.toNat_xor,BitVec.toNat_ofNat,BitVec.toNat_ofNat,yxn c,Nat.testBit_xor,show((2^64-1)%2^64:Nat)=2^64-1 from by decide,Nat.testBit_two_pow_sub_one];simp[d]
def atn{e f g h:Int}(l:e=a)(i:f=b)(j:g=c)(k:h=d):Ending.returned (.agg #[.int .u64 e,.int .u64 f,.int .u64 g,.int .u64 h])=.returned (.agg #[.int .u64 a,.int .u64 b,.int .u64 c,.int .u64 d]):=by rw[l,i,j,k]
def Qqi(g:Nat->Bool)(h:ae)(a:S4 i j k m g):
  Calls prog 219 #[.agg #[.int .u64 i,.int .u64 j,.int .u64 k,.int .u64 m]] h λz E=>(∃c d e f:Nat,z=.returned (.agg #[.int .u64 c,.int .u64 d,.int .u64 e,.int .u64 f])/\S4 c d e f (λb=> !g b))/\Below h.heap.size h E:=by
 let⟨c,l,v,A⟩:=Rf i a.a0;let⟨d,n,w,B⟩:=Rf j a.a1;let⟨e,o,x,C⟩:=Rf k a.a2;let⟨f,p,y,D⟩:=Rf m a.a3;have u:Y (S4 c d e f<|λb=> !g b):=by
  refine⟨v,w,x,y,λb q=> ?_⟩;rw[<-a.m b q];unfold Kv;split
  .exact A _ Q
  split
  .exact B _ Q
  split
  .exact C _ Q
  exact D _ Q
 have q:Y _:=l;have r:Y _:=n;have s:Y _:=o;have t:Y _:=p;clear a l n o p;go_enter func219,ntmps219;go_wp2;go_returns;exact⟨⟨c,d,e,f,atn q r s t,u⟩,((bp _ _).alloc ah _).alloc qD _⟩
def S4.more{f g h i a:Nat}(c:S4 f g h i A)(p:a<256):
  S4 (if a/64=0 then f|||2^(a%64)else f) (if a/64=1 then g|||2^(a%64)else g) (if a/64=2 then h|||2^(a%64)else h) (if a/64=3 then i|||2^(a%64)else i) (λb=>A b||(b==a)):=by
 have j:2^(a%64)<2^64:=yzl qG Q;refine⟨?_,?_,?_,?_,λb o=> ?_⟩
 .split
  .exact yzi c.a0 j
  exact c.a0
 .split
  .exact yzi c.a1 j
  exact c.a1
 .split
  .exact yzi c.a2 j
  exact c.a2
 .split
  .exact yzi c.a3 j
  exact c.a3
 rw[<-c.m b o];unfold Kv;have e:∀(n d:Nat),d<4->b/64=d->(if a/64=d then n|||2^(a%64)else n).testBit (b-64*d)=(n.testBit (b-64*d)||(b==a)):=by
  intro n d q m
  split
  .rename_i k;rw[Nat.testBit_or,We];congr 1;rw[vv];simp;omega
  rename_i k;have:(b==a)=false:=by rw[xy];intro l;subst l;exact k m
  rw[this,yzs]
 by_cases k:b<64
 .rw[G k,G k];have:=e f 0 Q Q;simpa using this
 rw[N k,N k];by_cases l:b<128
 .rw[G l,G l];exact e g 1 Q Q
 rw[N l,N l];by_cases m:b<192
 .rw[G m,G m];exact e h 2 Q Q
 rw[N m,N m];exact e i 3 Q Q
def S4.congr{g h:Nat->Bool}(f:S4 a b c d g)(j:∀e,e<256->g e=h e):S4 a b c d h:=⟨f.a0,f.a1,f.a2,f.a3,λe i=>(f.m e i).trans<|j e i⟩
def S4.zero:S4 0 0 0 0 (λ_=>false):=⟨qG,qG,qG,qG,λa _=>by unfold Kv;(repeat' split)<;>simp⟩
def Pr(a:i<2^64):bits .or .u64 (i:Int) (IntKind.u64.wrap<|2^(j%64))=((i|||2^(j%64):Nat):Int):=by
 rw[Zh _,Wl _ _ a<|yzl qG Q]
def Qqj(l:Nat->Bool)(c o:Nat)(h:ae)(E:S4 i j k m l)(H:c<=255)(K:o<=255):
  Calls prog 223 #[.agg #[.int .u64 i,.int .u64 j,.int .u64 k,.int .u64 m],.int .u8 c,.int .u8 o] h λB F=>(∃d e f g:Nat,B=.returned (.agg #[.int .u64 d,.int .u64 e,.int .u64 f,.int .u64 g])/\S4 d e f g (λa=>l a||(decide (c<=a)&&decide (a<=o))))/\Below h.heap.size h F:=by
 go_in;go_wp2;go_loopw [7] (λq wr=>∃(b:Nat)(d e f g:Nat)(u v w x:Int),c<=b/\b<=256/\q=I b/\jq wr h.heap.size d e f g/\jq wr (h.heap.size+1) u v w x/\Below h.heap.size h wr/\Y (S4 d e f g (λa=>l a||(decide (c<=a)&&decide (a<b))))/\Y (b<=o+1\/b=c)) (λq _=>256-(intOf q).toNat)
 .exact⟨c,i,j,k,m,0,0,0,0,ah,Q,rfl,by constructor<;>go_simp,by constructor<;>go_simp,((bp _ _).alloc ah _).alloc qD _,S4.congr E<|λa y=>by rw[show(decide (c<=a)&&decide (a<c))=false from by rw[Bool.and_eq_false_iff];simp;omega,yzs],.inr rfl⟩
 obtain⟨b,d,e,f,g,u,v,w,x,L,qa,rfl,hF,t,r,n,C⟩:=hrel;have p:=hF;let⟨R,S,T,U,V,W,X,Z⟩:=hF;by_cases M:b<=o
 .have z:Y _:=S4.more n (show b<256 from Q);have D:Y (∀a,a<256->((l a||(decide (c<=a)&&decide (a<b)))||(a==b))=(l a||(decide (c<=a)&&decide (a<b+1)))):=λa _=>by
   cases l a
   .simp only[Bool.false_or];rw[vv];simp;omega
   simp
  obtain s|s|s|s:(b:Int)/64=0\/(b:Int)/64=1\/(b:Int)/64=2\/(b:Int)/64=3:=Q
  all_goals
   go_wp2;go_region;go_wp2;go_roundw
   case rel=>
    have A:=z;refine⟨b+1,_,_,_,_,_,_,_,_,Q,Q,qJ,?_,t.qg Q _ _,(r.setCell ah _).drew,S4.congr A D,.inl Q⟩
    first
     |(rw[Pr _ _ n.a0,G,N,N,N];exact p.agp _)
     |(rw[Pr _ _ n.a1,N,G,N,N];exact p.Iy _)
     |(rw[Pr _ _ n.a2,N,N,G,N];exact p.Lq _)
     |(rw[Pr _ _ n.a3,N,N,N,G];exact p.Qa _)
   simp[intOf];omega
 let⟨z,A,D,P,a0,a1,a2,a3⟩:=t;go_wp2;refine yyd (v:=.agg #[.int .u64 d,.int .u64 e,.int .u64 f,.int .u64 g]) (by simp[results,results223,go_sem, *]) rfl ⟨⟨_,_,_,_,rfl,S4.congr n λa y=> ?_⟩,(((r.setCell qD _).setCell qD _).setCell qD _).setCell qD _⟩;have:=C.out;congr 1;rw[vv];simp;omega
section
structure NX where
 l:List Nd
 X:Nat->Prop
def NX.add(n:NX)(d:Nd):NX:=⟨n.l++[d],n.X⟩
def uj(w:ae)(b:Nat)(nv:af)(X:Nat->Prop)(ao:Option Addr)(ba:List Nat):Prop:=
 ba=[]\/∃kb,ao=some (O kb 0)/\kb≠b/\nv.ownBlock≠some kb/\¬X kb/\∀(k y:Nat),ba[k]?=some y->w.cell? (O kb k)=some (I y)
def ou(w:ae)(b:Nat)(nv:af)(xs:List af)(n:NX):Prop:=∀(k:Nat)(d:Nd),n.l[k]?=some d->
 ∃ao c y0 y1 y2 y3,S4 y0 y1 y2 y3 d.set/\uj w b nv n.X ao d.ba/\d.ba.length<=c/\∀o v,(Lk d ao c y0 y1 y2 y3)[o]?=some v->xs[k*9+o]?=some v
def uj.of{w f:ae}{b:Nat}{e:af}{h:Nat->Prop}{i:Option Addr}{l:List Nat}(d:uj w b e h i l)(g:∀a,a<w.heap.size->a≠b->some a≠e.ownBlock->f.heap[a]?=w.heap[a]?):uj f b e h i l:=by
 obtain d|⟨c,n,j,k,o,p⟩:=d
 .exact .inl d
 refine .inr ⟨c,n,j,k,o,λa r q=>?_⟩;have:=p a r q;exact(ac a<|g c (dw w _ this) j<|λm=>k m.symm).trans this
def ou.of{w e:ae}{b:Nat}{c:af}{xs:List af}{d:NX}(l:ou w b c xs d)(f:∀a,a<w.heap.size->a≠b->some a≠c.ownBlock->e.heap[a]?=w.heap[a]?):ou e b c xs d:=λa h hd=>by
 let⟨i,g,j,k,m,n,o,p,q,r⟩:=l a h hd;exact⟨i,g,j,k,m,n,o,p.of f,q,r⟩
structure Qqk(w:ae)(b:Nat)(s:ag)(i o g:Nat)(nv:af)(n:NX):Prop where
 rc:Rc w b s i
 c2:w.cell? (O b 2)=some (I o)
 c3:w.cell? (O b 3)=some (I g)
 c4:w.cell? (O b 4)=some nv
 f2:w.frozen? (O b 2)=false
 f3:w.frozen? (O b 3)=false
 f4:w.frozen? (O b 4)=false
 own:∃xs,w.ownsRow (b+1) 151 9 nv n.l.length xs/\ou w b nv xs n
 wf:∀(a:Nat)(d:Nd),n.l[a]?=some d->ww a g d
structure Qql(b:Nat)(nv nv':af)(w w':ae):Prop where
 os:w'.os=w.os
 tape:w'.tape=w.tape
 output:w'.output=w.output
 size:w.heap.size<=w'.heap.size
 block:∀k,k<w.heap.size->k≠b->some k≠nv.ownBlock->w'.heap[k]?=w.heap[k]?
 km:nv'.ownBlock=nv.ownBlock\/∀k,nv'.ownBlock=some k->w.heap.size<=k
def Qql.refl:Qql i V V W W:=⟨rfl,rfl,rfl,ah,λ_ _ _ _=>rfl,.inl rfl⟩
theorem Qql.trans{b:Nat}{k c g:af}{l m n:ae}(a:Qql b k c l m)(d:Qql b c g m n):Qql b k g l n:=by
 refine⟨d.os.trans a.os,d.tape.trans a.tape,d.output.trans a.output,bq a.size d.size,λf h i j=>?_,?_⟩
 .refine(d.block f (ew h a.size) i ?_).trans<|a.block f h i j;obtain e|e:=a.km
  all_goals grind
 obtain e|e:=d.km
 .rw[e];exact a.km
 exact .inr λo p=>bq a.size<|e o p
def Mv.Qqn(c:Mv a w u b)(d:af):Qql a d d w u:=
 ⟨c.only.os,c.only.tape,c.only.output,by rw[c.only.size];exact ah,λf _ e _=>c.only.block f e,.inl rfl⟩
def Qqo{f:TypeId}{xs:List af}(k:w.ownsRow a f b x c xs)(l:∀e,x.ownBlock=some e->u.heap[e]?=w.heap[e]?):u.ownsRow a f b x c xs:=by
 let⟨m,d⟩:=k;refine⟨m,?_⟩;obtain d|⟨g,i,j,h,n,o,p⟩:=d
 .exact .inl d
 exact .inr ⟨g,i,j,h,n,by rw[l g<|by rw[h];rfl];exact o,p⟩
def Mv.Qqp{i:NX}(f:Mv a w u c)(l:Qqk w a s b d e x i)(m:c<=s.size:=by omega):Qqk u a s c d e x i:=by
 obtain⟨n,o,p,q,r,t,v,⟨xs,h,j⟩,k⟩:=l;refine⟨f.rc n m,by rw[f.cell 2 Q];exact o,by rw[f.cell 3 Q];exact p,by rw[f.cell 4 Q];exact q,by rw[f.cd];exact r,by rw[f.cd];exact t,by rw[f.cd];exact v,⟨xs,?_,?_⟩,k⟩
 .exact Qqo h λg y=>f.only.block g (by have:=(h.lt g y).1;omega)
 exact j.of λg _ y _=>f.only.block g y
def Below.Qqq{k:NX}(h:Below w.heap.size w u)(z:Qqk w a s b c d x k):Qqk u a s b c d x k:=by
 let⟨⟨l,A,B,r,t⟩,C,D,n,o,p,q,⟨xs,j,v⟩,y⟩:=z;have m:a<w.heap.size:=dw w _ l;have f:∀e,u.cell? (O a e)=w.cell? (O a e):=λe=>h.cell (p:=O a e) m
 have g:∀e,u.frozen? (O a e)=w.frozen? (O a e):=λe=>h.frozen (p:=O a e) m
 exact⟨⟨(f 0).trans l,(f 1).trans A,(g 1).trans B,r,t⟩,(f 2).trans C,(f 3).trans D,(f 4).trans n,(g 2).trans o,(g 3).trans p,(g 4).trans q,⟨xs,
  Qqo j λe i=>h.block e (j.lt e i).2,v.of λe i _ _=>h.block e i⟩,y⟩
def Below.Qqr(b:Below w.heap.size w u)(c:af):Qql a c c w u:=
 ⟨b.os,b.tape,b.output,b.size,λe d _ _=>b.block e d,.inl rfl⟩
def Qql.below{k:NX}(e:Qql a x y w u)(h:Qqk w a s b c d x k):Below a w u:=by
 let⟨⟨j,t,v,o,p⟩,z,A,B,C,D,l,⟨xs,g,q⟩,r⟩:=h;have m:a<w.heap.size:=dw w _ j;exact⟨e.os,e.tape,e.output,e.size,λf n=>e.block f Q Q (λi=>by have:=(g.lt f i.symm).1;omega)⟩
def apq:(prog.info? 151).map (λa=>(a.zero,a.size,a.bytes))=some (some<|.agg #[I 0,.slice none 0 0,.int .u64 0,.int .u64 0,.int .u64 0,.int .u64 0,I 0,I 0,I 0],9,88):=qF
def ae2(a b:Obj):((W.alloc a).alloc b).drew.heap[W.heap.size+1]?=some b:=by
 have d:(W.alloc a).heap.size=W.heap.size+1:=qD
 have c:=yyb (W.alloc a) b;rw[d]at c;exact c
def Qqs{b c:Obj}{row:Option Nat}(e:((w.alloc b).alloc c).drew.grownBy u row)(f:a<w.heap.size)(d:some a≠row):u.heap[a]?=w.heap[a]? :=by
 have h:(w.alloc b).heap.size=w.heap.size+1:=qD
 have i:((w.alloc b).alloc c).drew.heap.size=w.heap.size+2:=qD
 have g:=e.block a Q d;rw[g];show((w.alloc b).alloc c).heap[a]?=_
 rw[im _ _ _ Q,im _ _ _ f]
theorem ou.added{d r:ae}{h k B:Nat}{m:af}{xs:List af}{b:NX}{e:Nd}{f:Option Addr}{c w x y s:Nat}
  (l:ou d h m xs b) (F:xs.length=b.l.length*9) (T:∀a,a<d.heap.size->a≠h->some a≠m.ownBlock->r.heap[a]?=d.heap[a]?)
  (g:m.ownBlock=some k\/d.heap.size<=k) (H:S4 w x y s e.set) (K:uj d h m b.X f e.ba) (L:e.ba.length<=c):
  ou r h (aa k (b.l.length+1) B) (xs++Lk e f c w x y s) (b.add e):=by
 have C:∀{f:Option Addr} {i:List Nat},uj d h m b.X f i->uj r h (aa k (b.l.length+1) B) b.X f i:=by
  intro f i l
  obtain l|⟨n,t,p,q,u,z⟩:=l
  .exact .inl l
  by_cases A:i=[]
  .exact .inl A
  obtain⟨o,v⟩:∃o,i[0]?=some o:=by
   grind
  have D:n<d.heap.size:=dw d _<|z 0 o v;refine .inr ⟨n,t,p,?_,u,λa o v=>?_⟩
  .intro j
   have E:k=n:=by simpa[Value.ownBlock]using j
   grind
  exact(ac a<|T n D p<|λj=>q j.symm).trans<|z a o v
 intro a n v
 by_cases j:a<b.l.length
 .have D:b.l[a]?=some n:=by
   have:(b.l++[e])[a]?=some n:=v;rwa[oq j]at this
  let⟨E,M,P,U,R,S,t,p,q,u⟩:=l a n D;refine⟨E,M,P,U,R,S,t,C p,q,λz A o=>?_⟩;grind
 have E:a=b.l.length:=by
  have:=(jy.1 v).1;simp[NX.add]at this;omega
 subst E;have D:n=e:=by
  have:(b.l++[e])[b.l.length]?=some n:=v;simpa using this.symm
 subst D;refine⟨f,c,w,x,y,s,H,C K,L,λz A o=>?_⟩;grind
theorem Qqk.added{e g:ae}{b C F s f i:Nat}{d:NX}{h:Nd}{H:ag}{j:af}{T aC:Obj}{xs:List af}{B:Option Addr}{c u v w x:Nat}(U:Qqk e b H C F s j d)(aE:e.ownsRow (b+1) 151 9 j d.l.length xs)(K:ou e b j xs d)
  (m:((e.alloc T).alloc aC).drew.grownBy g j.ownBlock) (D:g.ownsRow (b+1) 151 9 (aa f (d.l.length+1) i) (d.l.length+1) (xs++Lk h B c u v w x))
  (n:j.ownBlock=some f\/f=e.heap.size+2) (V:S4 u v w x h.set) (W:uj e b j d.X B h.ba) (X:h.ba.length<=c) (Z:ww d.l.length s h):
  Qqk (g.setCell (O b 4)<|aa f (d.l.length+1) i) b H C F s (aa f (d.l.length+1) i) (d.add h)/\
  Qql b j (aa f (d.l.length+1) i) e (g.setCell (O b 4)<|aa f (d.l.length+1) i):=by
 let⟨⟨y,a0,a1,L,M⟩,a2,a3,a4,a5,a6,a7,⟨aG,aA,aF⟩,P⟩:=U;have a9:b<e.heap.size:=dw e _ y;have z:=Qqs m a9 (λk=>by have:=(aA.lt _ k.symm).1;omega);have A:∀a,g.cell? (O b a)=e.cell? (O b a):=λa=>ac a z
 have aB:∀a,g.frozen? (O b a)=e.frozen? (O b a):=λa=>ad a z
 have p:∀a,a≠4->(g.setCell (O b 4)<|aa f (d.l.length+1) i).cell? (O b a)=e.cell? (O b a):=λa l=>
  (jm (h:=λk=>l qE) ..).trans (A a)
 have q:∀a,(g.setCell (O b 4)<|aa f (d.l.length+1) i).frozen? (O b a)=e.frozen? (O b a):=λa=>by
  simp_all
 have aH:=(D.lt f rfl).1;have aD:(d.add h).l.length=d.l.length+1:=by simp[NX.add]
 have E:∀a,a<e.heap.size->a≠b->some a≠j.ownBlock->(g.setCell (O b 4)<|aa f (d.l.length+1) i).heap[a]?=e.heap[a]? :=λa l qa R=>by
  rw[er _ _ _ _ qa,Qqs m l R]
 refine⟨⟨⟨(p 0 Q).trans y,(p 1 Q).trans a0,(q 1).trans a1,L,M⟩,(p 2 Q).trans a2,(p 3 Q).trans a3,?_,(q 2).trans a5,(q 3).trans a6,(q 4).trans a7,⟨_,?_,ou.added K aE.1 E (n.imp id λaI=>Q) V W X⟩,?_⟩,?_⟩
 .exact qz _ _ _<|(A 4).trans a4
 .rw[aD];exact Qqo D λa l=>er _ _ _ _ (by
   have:f=a:=by simpa[Value.ownBlock]using l
   simp only;omega)
 .intro o r t
  by_cases k:o<d.l.length
  .have:(d.l++[h])[o]?=some r:=t;grind
  have a8:o=d.l.length:=by
   have:=(jy.1 t).1;simp[NX.add]at this;omega
  subst a8;have:(d.l++[h])[d.l.length]?=some r:=t;grind
 have o:e.heap.size+2<=g.heap.size:=by have:=m.size;simp at this;omega
 refine⟨m.os,m.tape,m.output,by simp[World.setCell];omega,E,?_⟩
 .obtain n|n:=n
  .exact .inl n.symm
  right;intro a l
  have:f=a:=by simpa[Value.ownBlock]using l
  omega
attribute [local go_sem↓] Go.wp_at_zero Go.wp_at_succ
def Bi(b:NX)(z:ag)(f:af)(a:ae)(E:Qqk a i z j k m f b)(a1:b.l.length<=1000)
  (c:Nd) (d r p o:Int) (q:Nat) (l:Option Addr) (n s t u v:Nat) (w:d=jr c.R) (F:q=c.ba.length) (S:r=na c) (A:p=c.lo) (B:o=c.hi) (H:S4 s t u v c.set) (K:uj a i f b.X l c.ba) (a2:c.ba.length<=n) (L:ww b.l.length m c):
  Calls prog 150 #[.pointer<|some ⟨i,0,none⟩,.agg #[.int .i64 d,.slice l q n,.int .u64 s,.int .u64 t,.int .u64 u,.int .u64 v,.int .i64 r,.int .i64 p,.int .i64 o]] a
   λy T=>∃C,y=.returned (.int .i64 b.l.length)/\Qqk T i z j k m C (b.add c)/\Qql i f C a T:=by
 have a3:=E;let⟨⟨a4,aL,aM,aD,aE⟩,aH,aI,a5,aJ,aK,a6,⟨xs,x,D⟩,U⟩:=E;have a7:i<a.heap.size:=dw a _ a4;have M:=J x;have W:Y (∀d,f.ownBlock=some d->i+1<=d/\d<a.heap.size):=λd w=>x.lt d w
 have P:Y (∀{g:ae} {e h:Nat} {qa R:Obj},((a.alloc qa).alloc R).drew.grownBy g f.ownBlock->g.ownsRow (i+1) 151 9 (aa e (b.l.length+1) h) (b.l.length+1) (xs++[I d,.slice l q n,.int .u64 s,.int .u64 t,.int .u64 u,.int .u64 v,I r,I p,I o])->(f.ownBlock=some e\/e=a.heap.size+2)->
   Qqk (g.setCell (O i 4)<|aa e (b.l.length+1) h) i z j k m (aa e (b.l.length+1) h) (b.add c)/\
   Qql i f (aa e (b.l.length+1) h) a (g.setCell (O i 4)<|aa e (b.l.length+1) h)):=by
  intro g e h qa R V X Z
  refine Qqk.added a3 x D V ?_ Z H K a2 L;rw[Lk,<-w,<-F,<-S,<-A,<-B];exact X
 let⟨a8,V,X,Z,a0⟩:=yyf apq;clear x D U K H L w F S A B;generalize aF:b.l.length=nl at M P a1|-;go_in;go_wp21;go_region_law
  ((refine step_append_lies _ (by rfl) _ _ _ (by rfl) (i+1) 151 a8 _ 9 88 underlying86 V X Z a0 rfl Q f nl xs (by rfl) (((M.alloc _).alloc _).drew)
     (O (a.heap.size+1) 0) 1 1 [I d,.slice l q n,.int .u64 s,.int .u64 t,.int .u64 u,.int .u64 v,I r,I p,I o] (by rfl) (by rfl) (World.news_of_block (cs:=#[I d,.slice l q n,.int .u64 s,.int .u64 t,.int .u64 u,.int .u64 v,I r,I p,I o]) (t:=151) (fr:=(0,0))<|ae2 a _ _) (by simp[Value.oneCell'])
     Q qH Q qB (a.heap.size+2) qD ?_;intro e h g aB D U aG;have x:=Qqs D a7 (λy=>by have:=(W _ y.symm).1;omega);have a9:=ac 4 x;have aA:=ad 4 x;rw[a5]at a9;rw[a6]at aA;clear x))
 all_goals go_wp2
 all_goals go_ret
 all_goals exact⟨_,rfl,P D aB U⟩
end
def ad3(e:Ro s a b c true d):hy s a=(c,d):=by
 unfold hy;obtain⟨_,e,_⟩|⟨_,f,g⟩|⟨_,_,f,g⟩:=e
 .cases e
 .rw[G f];obtain⟨_,e,_⟩|⟨_,e,_⟩|⟨_,_,h,_,_,_,i⟩:=g
  .cases e
  .cases e
  rw[h,i]
 rw[N f];obtain⟨_,e,_⟩|⟨_,_,h,i⟩:=g
 .cases e
 rw[h,i]
def ak6(d:St)(t:ae)(p:Rc t i S j)(e:run S j=some d)(x:wv S j 0 d)(L:d.m≠8):
  Calls prog 238 #[.pointer<|some ⟨i,0,none⟩] t λb X=>∃(s r:Nat)(h:Bool)(a:Nat),b=.returned (.tuple #[.int .u8 s,.int .u8 r,.bool h])/\Mv i t X a/\(h=true->s<=255/\r<=255/\kf S j=(s,r,a))/\Zm S j d h a:=by
 have M:=J e;have qa:=J x;have D:=p.le;clear e x;go_in;go_wp21;go_call Ko i S j 0 _ p Q as b P ⟨v,h,a,rfl,c,u⟩;have B:Y (h=true->hy S j=(v,a)):=λb=>by subst b;exact ad3 u
 obtain⟨rfl,E,C,o,q⟩|⟨rfl,hF⟩:=ad4 M D qa u
 .rw[N L]at q;have A:=J q;have m:=c.rc p C;clear u q;by_cases hd:pk S a=45
  .have g:=J hd;have F:a<S.size:=by
    by_cases w:a<S.size
    .exact w
    rw[qj w]at hd;omega
   have R:Y (run S (a+1)=some ⟨8,d.o,d.a,v⟩):=by
    have b:au S a=45:=by rw[fh F]at hd;omega
    rw[Y,lf A.out,Dk Q Q,Aj,b];rfl
   have H:Rc (P.setCell (O i 1)<|I<|(a:Int)+1) i S (a+1):=m.put (a+1) Q Q;clear hd;go_wp2_with (first|(go_at_call 100;go_call Bh i S a 45 _ m Q g as b w ⟨rfl,n,rfl⟩));go_call Ko i S (a+1) v _ (H.drewN _) o as b w ⟨y,k,z,rfl,f,l⟩;have K:=c.trans (((m.ee.set (a+1) Q).drewN _).trans f);have T:(k=true->v<=255/\y<=255/\kf S j=(v,y,z))/\Zm S j d k z:=by
    obtain⟨rfl,Z,U,V,W⟩|⟨rfl,hF⟩:=ad4 R Q (.inl ⟨rfl,rfl⟩) l
    .exact⟨λ_=>⟨o,V,by rw[kf,B.out qD,G g.out,ad3 l]⟩,.inl ⟨rfl,Q,U,y,.inr W⟩⟩
    exact⟨(λe=>cb e qD),.inr ⟨rfl,hF⟩⟩
   clear f l;go_wp21;go_ret3;exact⟨v,y,k,z,rfl,K,T⟩
  have g:=J hd;clear hd;go_wp2_with (first|(go_at_call 100;go_call tq i S a 45 _ m Q g as b w ⟨rfl,n,rfl⟩));go_ret3;exact⟨v,v,true,a,rfl,c.drewN _,λ_=>⟨o,o,by rw[kf,B.out qD,N g.out]⟩,.inl ⟨rfl,E,C,v,.inl ⟨A,g⟩⟩⟩
 have g:=J hF;clear hF u;go_wp21;go_ret3;exact⟨v,v,false,a,rfl,c,(λe=>cb e qD),.inr ⟨rfl,g⟩⟩
