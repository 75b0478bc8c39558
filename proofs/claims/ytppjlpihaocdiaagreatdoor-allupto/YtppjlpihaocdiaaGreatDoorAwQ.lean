import Derived.Shelf.Strconv.Itoa3
import Derived.Lib.AppendIntMem
import Derived.Test.YtppjlpihaocdiaaGreatDoorAvQ
set_option linter.all false
set_option maxRecDepth 100000
set_option maxHeartbeats 16000000
namespace Go.Proofs.YtppjlpihaocdiaaGreatDoor
open Go.RowKit Go.Proofs.Tryz
variable{w u v:ae}{a b c d e:Nat}{s t:ag}{x y z:af}{p D:Int}{l:List af}{f:Bool}{g:List Nat}{h:Nat->Prop}{o:Option Addr}{r:List UInt8}{A:Nat->Bool}{B:Nat->Nat->Bool}{C:Nat->Nat->Prop}(i:Nat)(S T:ag)(V X:af)(j k m n:Nat)(Z:Int)(W:ae)
def xxi:Shelf.Ren:=⟨λ|171=>205|243=>233|283=>256|284=>257|285=>258|286=>259|129=>107|317=>264|318=>265|319=>266|320=>267|337=>270|338=>271|n=>n,λ|171=>304|53=>147|37=>99|173=>306|212=>311|51=>312|213=>313|46=>224|232=>318|233=>319|n=>n,λ|17=>1|18=>2|19=>3|n=>n⟩
def xxj:LaysM.n171 prog xxi:=by repeat' first|kernel_rfl|constructor|intro
def ap3(f:Cf)(c:Ed)(h:Ev)(b:ae)(g:At b i f c h)(j:c.number<=70368744177664):
  Calls prog 205 #[.int .i64 c.number] b λd e=>d=.returned (.string<|itoa c.number)/\Below b.heap.size b e:=by
 go_call Any.strconv_Itoa xxj (c.number:Int) Q Q b g.cm.1.1 as d e ⟨rfl,k,a,rfl⟩;exact⟨rfl,Lib.below_grow _ b ah k a⟩
def aez:∀(k a:Nat),a<10^(k+1)->Lib.nDigits a<=k+1
 |0,a,h=>by rw[Lib.nDigits_small<|qK h];omega
 |k+1,a,h=>by
  by_cases b:a<10
  .rw[Lib.nDigits_small b];omega
  rw[Lib.nDigits_big b];have:=aez k (a/10) (by rw[zyj]at h;omega);omega
def yf(b:i<=70368744177664):(itoa i).size<=16:=by
 have a:(itoa i).size=(Lib.decDigits i).length:=by
  simp only[itoa,Lib.itoa];rw[N];simp[ByteArray.size]
 rw[a,Lib.decDigits_length];exact aez 15 i Q
def rv.Gu{d:Cf}{c:Ed}{f:Ev}{e:Ending}(b:rv w a d f c none e u):e=.returned (.bool false)/\Ok w a d f c u:=by
 obtain⟨_,b⟩|⟨g,b,_⟩:=b
 .exact b
 cases b
def rv.sj{d:Cf}{g c:Ed}{f:Ev}{e:Ending}(b:rv w a d f g (some c) e u):e=.returned (.bool true)/\Ok w a d f c u:=by
 obtain⟨b,_⟩|⟨i,b,h⟩:=b
 .cases b
 cases b;exact h
def Ok.yc{d:Cf}{c:Ed}{e:Ev}(h:Ok w.drew a d e c u):Ok w a d e c u:=by
 let⟨f,g,b⟩:=h;exact⟨f,g,⟨b.os,b.tape,b.output,b.size,b.block,b.rp,b.cm⟩⟩
def Ok.after{c:Cf}{b:Ed}{d:Ev}(e:Below w.heap.size w u)(i:Ok u a c d b v):Ok w a c d b v:=by
 let⟨f,g,h⟩:=i;exact⟨f,g,(Fe.below e).trans h⟩
def Ok.qg{g:Cf}{d:Ed}{c:Ev}(i:Ok w a g c d u)(e:¬ib a c b)(f:b<w.heap.size):u.heap[b]?=w.heap[b]? :=by
 let⟨j,k,h⟩:=i;exact h.block b f e
def avx(e:Mf)(E:fj e)(g:Nat)(d:Cf)(a:Ed)(q:Ev)(o x:Nat)(b:Cm)(L:fw)(m:ae)(w:At m g d a q)(B:Jq m o x b L)(u:¬ib g q o)(T:a.L.size<=80)(a2:d.space<=80)(U:a.out.length<=70368744177664)
  (V:b.num<=9) (M:∀y∈b.gj,(y.jw=-1/\y.byte<256)\/(0<=y.jw/\y.jw<=eo b.L)) (qa:b.gj.length<=400):
  Calls prog 208 #[.pointer<|some ⟨g,0,none⟩,.pointer<|some ⟨o,x,none⟩] m (rv m g d q a<|a.subst e d b):=by
 have P:=J u;have a3:o≠g:=λi=>u<|.inl i
 have a4:¬g=o:=λi=>u<|.inl i.symm
 have X:=w.xc 5;have k:=atm e E a.L o x b L m B T V M qa;have l:Y (a.subst e d b=if(sf e b a.L).2=true then(match a.kz d (sf e b a.L).1 with|none=>none|some f=>some<|if b.kr=true then {f with put:=true}.print (sf e b a.L).1 else {f with put:=true})else some a):=rfl;generalize sf e b a.L=a0 at k l;let⟨j,Z⟩:=a0;simp only at k l;obtain A|A:=df Z<;>subst A
 .rcases c:a.kz d j with _|f
  .have n:Y (a.subst e d b=none):=by rw[Y,l.out,c];rfl
   have C:=J c;go_in;go_wp21;go_call k;rintro i v ⟨p,rfl⟩;have h:=Jw g d a q v j<|w.below p;rw[C.out]at h;go_wp21;refine h.mono ?_;rintro i z s;obtain⟨rfl,t⟩:=s.Gu;have r:=J<|Ok.after p t;go_wp21;go_ret;exact .inl ⟨n,rfl,r⟩
  have a7:j.size<=80:=by
   unfold Ed.kz at c;split at c
   .cases c
   omega
  have R:f.out=a.out:=by
   unfold Ed.kz at c;split at c
   .cases c
   cases c;rfl
  have D:Y (a.subst e d b=some (if b.kr=true then {f with put:=true}.print j else {f with put:=true})):=by rw[Y,l.out,c];rfl
  have C:=J c;have H:=B.c6;go_in;go_wp21;go_call k;rintro i v ⟨p,rfl⟩;have h:=Jw g d a q v j<|w.below p;rw[C.out]at h;go_wp21;go_call h;rintro i z s;obtain⟨rfl,t⟩:=s.sj;have r:=J<|Ok.after p t;have K:=(ac (x+6)<|r.qg P B.lt).trans H;have a5:=r.cell (k:=18)<|λ_=>rfl;have a6:=r.cd 18;have t:Y (Ok m g d q {f with put:=true} (z.setCell (O g 18)<|.bool true)):=r.put (λa9 W=>⟨(bf.refl _ _).setCell _ _,jx W.row 18 _ Q rfl⟩);obtain F|F:=df b.kr
  .have n:Y (a.subst e d b=some ({f with put:=true}.print j)):=by rw[Y,D.out,G F]
   rw[F]at K;go_wp21;let⟨a1,s,H⟩:=t;have h:=En g d {f with put:=true} a1 _ j s (by simp only[R];exact U);go_call h;rintro i w4 ⟨rfl,a8,s⟩;have S:Y (Ok m g d q ({f with put:=true}.print j) w4):=⟨_,s.1,H.trans s.2⟩;go_wp21;go_ret;exact .inr ⟨_,n,rfl,S⟩
  have n:Y (a.subst e d b=some {f with put:=true}):=by rw[Y,D.out,N<|by rw[F];simp]
  rw[F]at K;go_wp21;go_ret;exact .inr ⟨_,n,rfl,t⟩
 have n:Y (a.subst e d b=some a):=by rw[Y,l.out];rfl
 go_in;go_wp21;go_call k;rintro i v ⟨p,rfl⟩;go_wp21;go_ret;exact .inr ⟨_,n,rfl,Ok.below w p⟩
structure ka(cf:Cf)(E:Ed):Prop where
 L:E.L.size<=80
 bt:E.bt.size<=80
 space:cf.space<=80
 line:cf.line<=80
 dt:cf.dt<=1000
 out:E.out.length+fz E.cy<=1099511000000
 ny:∀t∈E.cy,t.size<=1000
 number:E.number<=70368744000000
 next:E.next.length<=4000000
 U:cf.U.length<=1000
 bo:E.bo.length=cf.U.length
 cx:E.cx<=cf.dt
 H:E.H<=cf.U.length
def ka.qw{b:Cf}{a:Ed}(c:ka b a):a.out.length<=70368744177664:=by have:=c.out;omega
def ajh:∀a:List ag,a.length<=fz a
 | []=>by simp[fz]
 |x::a=>by
  have:=ajh a;simp only[fz,vw,List.sum_cons,xv]at this|-;omega
def anj(m:Mf)(s:fj m)(f:Nat)(b:Cf)(a:Ed)(k:Ev)(h n:Nat)(e:Cm)(w:fw)(d:ae)(i:At d f b a k)(g:ni d h n e w)(o:¬ib f k h)(c:ka b a)(p:a.cy.length<=1099511627776)(j:ox b.U.length e):
  Calls prog 172 #[.pointer<|some ⟨f,0,none⟩,.pointer<|some ⟨h,n,none⟩] d (rv d f b k a<|a.ea m b e):=by
 have t:d.cell? (O h n)=some (I e.R):=g.cell 0 _ rfl;have V:=g.cell 13 _ rfl;have W:=g.cell 21 _ rfl;have z:=g.cell 22 _ rfl;have A:=i.cell (k:=4) rfl;have B:=i.cell (k:=5) rfl;have C:=i.cell (k:=7) rfl;have D:=c.L;have E:=c.bt;have F:=c.space;have u:=c.qw;have v:a.number<=70368744177664:=bq c.number Q;have K:(qh a.L).size<=1000000:=bq (pd _ _ _) Q;have L:(itoa a.number).size<=1000000:=by have:=yf a.number v;omega
 have M:=j.tx;have P:=j.nu;have H:=j.ys;have o:=J o;have s:=J s;have g:=J g;have j:=J j;have i:=J i;clear c;by_cases l:e.R=5\/e.R=14\/e.R=15\/e.R=11\/e.R=20\/e.R=6\/e.R=12
 .obtain l|l|l|l|l|l|l:=l
  all_goals
   have x:=J l;rw[l]at t;clear l;go_in;go_wp21;go_region_with (first
    |(go_at_call 204;go_call aoa f b a k d.drew i.out.drew Q as S T ⟨rfl,r⟩;have U:Y (At T f b a k/\Below d.heap.size d T):=by {obtain⟨C,rfl⟩:=r;exact⟨i.out.drew.drewN C,⟨rfl,rfl,rfl,ah,λ_ _=>rfl⟩⟩};clear r)
    |(go_at_call 205;go_call ap3 f b a k d.drew i.out.drew v as S T ⟨rfl,r⟩;have U:Y (At T f b a k/\Below d.heap.size d T):=⟨i.out.drew.below r,⟨r.os,r.tape,r.output,r.size,r.block⟩⟩;clear r)
    |(go_at_call 123;first|(have:e.R=6:=x;go_call En f b a k T (qh a.L) U.out.1 u K as S R ⟨rfl,X,r⟩;have y:=J<|Ok.after U.out.2 r.ok;clear r)|(have:e.R=12:=x;go_call En f b a k T (itoa a.number) U.out.1 u L as S R ⟨rfl,X,r⟩;have y:=J<|Ok.after U.out.2 r.ok;clear r)|(have:e.R=5:=x;go_call En f b a k d.drew a.L i.out.drew u Q as S R ⟨rfl,T,r⟩;have y:=J<|Ok.yc r.ok;clear r)|(have:e.R=15:=x;go_call En f b a k d.drew e.text i.out.drew u Q as S R ⟨rfl,T,r⟩;have y:=J<|Ok.yc r.ok;clear r))
    |(go_at_call 206;go_call aqf f b a k d.drew e.text i.out.drew p as S R ⟨rfl,r⟩;have y:=J<|Ok.yc r;clear r)
    |(go_at_call 207;go_call anv f b a k d.drew i.out.drew as S R ⟨rfl,r⟩;have y:=J<|Ok.yc r;clear r)
    |(go_at_call 209;go_call awp f b a k d.drew e.la e.oo i.out.drew Q (j.out.yy x) Q as S R ⟨rfl,r⟩;have y:=J<|Ok.yc r;clear r))
   all_goals
    go_wp21;go_ret;exact .inr ⟨_,by rw[Ed.ea,x.out];rfl,rfl,y⟩
 by_cases c:e.R=7\/e.R=8\/e.R=9\/e.R=10\/e.R=19
 .clear l;obtain l|l|l|l|l:=c
  all_goals
   first|(have:e.R=7:=l;have x:a.ea m b e=a.kz b a.bt:=(by simp[Ed.ea,l]);have q:=Jw f b a k d.drew a.bt i.out.drew)|(have:e.R=8:=l;have x:a.ea m b e=a.grow b a.bt:=(by simp[Ed.ea,l]);have q:=adb f b a k d.drew a.bt i.out.drew Q Q)|(have:e.R=9:=l;have x:a.ea m b e=a.holds b a.L:=(by simp[Ed.ea,l]);have q:=adi f b a k d.drew a.L i.out.drew)|(have:e.R=10:=l;have x:a.ea m b e=a.holds b (a.bt++gp++a.L):=(by simp[Ed.ea,l]);have q:=apc f b a k d.drew a.L i.out.drew Q Q)|(have:e.R=19:=l;have x:a.ea m b e=a.subst m b e:=(by simp[Ed.ea,l]);have q:=avx m s f b a k h (n+14) e w d i (g.out.put l) o Q F u P (j.out.tm l) j.out.tl)
   rw[l]at t;rw[<-x]at q;have l:=J l;clear x;rcases c:a.ea m b e with _|S
   all_goals
    rw[c]at q;have x:=J c;clear c;go_in;go_wp21;first|(have:e.R=19:=l;refine q.mono ?_;rintro S T c;(first|obtain⟨rfl,r⟩:=c.Gu|obtain⟨rfl,r⟩:=c.sj);have y:=J r;clear q c r)|go_region_with ((first|go_at_call 118|go_at_call 203);refine q.mono ?_;rintro S T c;(first|obtain⟨rfl,r⟩:=c.Gu|obtain⟨rfl,r⟩:=c.sj);have y:=J<|Ok.yc r;clear q c r)
    all_goals
     go_wp21;go_ret;first|exact .inl ⟨rfl,rfl,y⟩|exact .inr ⟨_,rfl,rfl,y⟩
 have x:Y (a.ea m b e=some a):=by rw[Y,Ed.ea];repeat rw[N Q]
 obtain⟨q,S,T,U,X,a0,a1,a2,a3,a4,a5,a6⟩:((e.R:Int)==5)=false/\((e.R:Int)==14)=false/\((e.R:Int)==15)=false/\((e.R:Int)==11)=false/\((e.R:Int)==20)=false/\((e.R:Int)==6)=false/\((e.R:Int)==12)=false/\((e.R:Int)==7)=false/\((e.R:Int)==8)=false/\((e.R:Int)==9)=false/\((e.R:Int)==10)=false/\((e.R:Int)==19)=false:=qB
 clear c l;go_in;go_wp21;go_ret;exact .inr ⟨_,x,rfl,Ok.refl i⟩
theorem Wy(c:Cf)(a:Ed):∃b,a.ja c={a with out:=b}/\a.out.length<=b.length/\b.length<=a.out.length+a.L.size+1:=by
 unfold Ed.ja;split
 .grind
 refine⟨a.out++Qjj a.L++[10],rfl,?_,?_⟩<;>simp[jn]<;>omega
def Ja(c:Cf)(d:Bool)(a:Ed):(a.ej c d).1.H=a.H:=by
 unfold Ed.ej;split
 .rfl
 cases b:a.read.vu c d (ce a.next)with
 |none=>rfl
 |some e=>
  have:e.H=a.H:=by
   unfold Ed.vu Ed.grow Ed.kz at b;split at b<;>split at b<;>cases b<;>rfl
  exact this
def Ed.kq(cf:Cf)(join:Bool)(E1:Ed):Ed×Nat:=if E1.mh cf=true then(if(E1.ej cf join).2=true then(E1.ej cf join).1.fv ((E1.ej cf join).1.H+1)else((E1.ej cf join).1,0))else(E1,0)
def ut(c:Cf)(a:Ed)(b:Bool):a.ix c b=if a.bg=3/\a.known=false then(a,0)else if a.bg=3/\a.more=false then(a,4)else(if a.bg=3 then {(if b=true then a else(a.ja c).fq)with bg:=4} else a).kq c b:=rfl
def amn(b:Cf)(a:Ed)(p:Ev)(n:ae)(C:At n i b a p)(q:ka b a):
  Calls prog 171 #[.pointer<|some ⟨i,0,none⟩,.int .i64 3] n (Step n i b p<|a.ix b false):=by
 have w:=J<|ut b a false;have a7:=C.xc 15;have X:a.number<=70368744177664:=bq q.number Q;have Z:=q.next
 have a8:a.L.size<=1000000:=bq q.L Q;have aJ:=q.L;have aK:=q.out;have a9:=q.qw;have aA:Y (∀K∈a.cy,K.size<=1000000):=λK aB=>bq (q.ny K aB) Q
 have a0:a.H<=1000000:=by have:=q.H;have:=q.U;omega
 clear q;by_cases o:a.bg=3
 .rw[o]at a7;have r:=Kx i b a p n C;by_cases f:a.known=false
  .have s:Y (a.ix b false=(a,0)):=by rw[Y,w.out,G ⟨o,f⟩]
   rw[f]at r;generalize a.more=mo at r;clear w o f;go_in;go_wp21;go_call r;rintro k a1 ⟨rfl,g,rfl⟩;go_wp21;go_ret;rw[s.out];exact⟨rfl,(Ok.refl C).drewN g⟩
  have L:a.known=true:=qK f
  rw[L]at r;by_cases B:a.more=false
  .have s:Y (a.ix b false=(a,4)):=by rw[Y,w.out,N<|by simp[f],G ⟨o,B⟩]
   rw[B]at r;clear w o f L B;go_in;go_wp21;go_call r;rintro k a1 ⟨rfl,g,rfl⟩;go_wp21;go_ret;rw[s.out];exact⟨rfl,(Ok.refl C).drewN g⟩
  have e:a.more=true:=qK B
  rw[e]at r;let⟨a2,c,j,l⟩:=Wy b a;let⟨h,d,m⟩:=Ww<|a.ja b;have a3:Y ((a.ja b).fq={a with out:=h,cy:=[]}):=by rw[Y,d,c]
  have s:Y (a.ix b false=({a with out:=h,cy:=[],bg:=4}:Ed).kq b false):=by
   rw[Y,w.out,N<|by simp[f],N<|by simp[B],G o,N qD,a3.out]
  have a4:=J c;have aC:a2.length+fz a.cy<=70368744177664:=Q
  clear w o f L B e d m c j l;go_in;go_wp21;go_call r;rintro k a1 ⟨rfl,g,rfl⟩;clear r;have aD:=C.drewN g;have c:=agc i b a p _ aD a9 a8;go_wp21;go_call c;rintro k a5 ⟨rfl,e⟩;clear c;rw[a4.out]at e;let⟨a6,aE,d⟩:=e;have aF:Y (Fe i p a6 n a5):=⟨d.os,d.tape,d.output,d.size,d.block,d.rp,d.cm⟩;clear d;have c:=Wv i b {a with out:=a2} a6 a5 aE aC aA;go_wp21;go_call c;rintro k w3 ⟨rfl,e⟩;clear c;have M:Y (Ok n i b p {a with out:=h,cy:=[]} w3):=by
   let⟨t,m,u⟩:=e;rw[<-a4.out,a3.out]at m;exact⟨t,m,aF.trans u⟩
  clear e;have aL:=M.cell (k:=15)<|λ_=>rfl;have aM:=M.cd 15;have P:Y (Ok n i b p {a with out:=h,cy:=[],bg:=4} (w3.setCell (O i 15)<|I 4)):=M.put (λaN aG=>⟨(bf.refl _ _).setCell _ _,jx aG.row 15 _ Q rfl⟩);let⟨t,x,D⟩:=P;have c:=Jv i b {a with out:=h,cy:=[],bg:=4} t (w3.setCell (O i 15)<|I 4) x;rcases df (({a with out:=h,cy:=[],bg:=4}).mh b)with l|l
  .rw[l]at c;have y:Y (a.ix b false=if(({a with out:=h,cy:=[],bg:=4}).ej b false).2=true then(({a with out:=h,cy:=[],bg:=4}).ej b false).1.fv ((({a with out:=h,cy:=[],bg:=4}).ej b false).1.H+1)else((({a with out:=h,cy:=[],bg:=4}).ej b false).1,0)):=by rw[Y,s.out,Ed.kq,G l]
   have v:=Ja b false<|{a with out:=h,cy:=[],bg:=4};go_wp21;go_call c;rintro k w4 ⟨rfl,g,rfl⟩;clear c;have c:=Xc i b {a with out:=h,cy:=[],bg:=4} t _ (x.drewN g) X Z;rcases hr:({a with out:=h,cy:=[],bg:=4}).ej b false with⟨d,qa⟩;rw[hr]at c y v;simp only at c v;have E:=D.drewN g;obtain f|f:=df qa<;>subst f
   .have j:Y (a.ix b false=d.fv (d.H+1)):=by rw[Y,y.out];rfl
    clear hr;go_wp21;go_call c;rintro k z ⟨rfl,e⟩;clear c;let⟨R,F,H⟩:=e;have S:=E.trans H;clear H;have aH:=F.xc 14;have aI:d.H<=1000000:=by rw[v];exact a0
    have c:=Br i b d R z (d.H+1) F;generalize d.fv (d.H+1)=T at c j;clear v;go_wp21;go_call c;rintro k U ⟨rfl,e⟩;have V:Y (Ok n i b p T.1 U):=by
     let⟨A,m,u⟩:=e;exact⟨A,m,S.trans u⟩
    clear c e;go_wp21;go_ret;rw[j.out];exact⟨rfl,V⟩
   have j:Y (a.ix b false=(d,0)):=by rw[Y,y.out];rfl
   clear hr;go_wp21;go_call c;rintro k z ⟨rfl,e⟩;have W:Y (Ok n i b p d z):=by
    let⟨A,m,u⟩:=e;exact⟨A,m,E.trans u⟩
   clear c e;go_wp21;go_ret;rw[j.out];exact⟨rfl,W⟩
  rw[l]at c;have j:Y (a.ix b false=({a with out:=h,cy:=[],bg:=4},0)):=by rw[Y,s.out,Ed.kq,N<|by rw[l];simp]
  go_wp21;go_call c;rintro k w4 ⟨rfl,g,rfl⟩;clear c;go_wp21;go_ret;rw[j.out];exact⟨rfl,t,x.drewN g,D.drewN g⟩
 have h:((a.bg:Int)==3)=false:=qB
 have s:Y (a.ix b false=a.kq b false):=by
  rw[Y,w.out,N<|by simp[o],N<|by simp[o],N o]
 clear w o;have P:=J<|Ok.refl C;go_in;go_wp21;let⟨t,x,D⟩:=P;have c:=Jv i b a t n x;rcases df ((a).mh b)with l|l
 .rw[l]at c;have y:Y (a.ix b false=if((a).ej b false).2=true then((a).ej b false).1.fv (((a).ej b false).1.H+1)else(((a).ej b false).1,0)):=by rw[Y,s.out,Ed.kq,G l]
  have v:=Ja b false<|a;go_call c;rintro k w4 ⟨rfl,g,rfl⟩;clear c;have c:=Xc i b a t _ (x.drewN g) X Z;rcases hr:(a).ej b false with⟨d,qa⟩;rw[hr]at c y v;simp only at c v;have E:=D.drewN g;obtain f|f:=df qa<;>subst f
  .have j:Y (a.ix b false=d.fv (d.H+1)):=by rw[Y,y.out];rfl
   clear hr;go_wp21;go_call c;rintro k z ⟨rfl,e⟩;clear c;let⟨R,F,H⟩:=e;have S:=E.trans H;clear H;have aH:=F.xc 14;have aI:d.H<=1000000:=by rw[v];exact a0
   have c:=Br i b d R z (d.H+1) F;generalize d.fv (d.H+1)=T at c j;clear v;go_wp21;go_call c;rintro k U ⟨rfl,e⟩;have V:Y (Ok n i b p T.1 U):=by
    let⟨A,m,u⟩:=e;exact⟨A,m,S.trans u⟩
   clear c e;go_wp21;go_ret;rw[j.out];exact⟨rfl,V⟩
  have j:Y (a.ix b false=(d,0)):=by rw[Y,y.out];rfl
  clear hr;go_wp21;go_call c;rintro k z ⟨rfl,e⟩;have W:Y (Ok n i b p d z):=by
   let⟨A,m,u⟩:=e;exact⟨A,m,E.trans u⟩
  clear c e;go_wp21;go_ret;rw[j.out];exact⟨rfl,W⟩
 rw[l]at c;have j:Y (a.ix b false=(a,0)):=by rw[Y,s.out,Ed.kq,N<|by rw[l];simp]
 go_call c;rintro k w4 ⟨rfl,g,rfl⟩;clear c;go_wp21;go_ret;rw[j.out];exact⟨rfl,t,x.drewN g,D.drewN g⟩
def amo(b:Cf)(a:Ed)(r:Ev)(j:ae)(t:At j i b a r)(n:ka b a):
  Calls prog 171 #[.pointer<|some ⟨i,0,none⟩,.int .i64 4] j (Step j i b r<|a.ix b true):=by
 have s:=J<|ut b a true;have a3:=t.xc 15;have W:a.number<=70368744177664:=bq n.number Q;have X:=n.next
 have Z:a.L.size<=1000000:=bq n.L Q;have aD:Y (∀K∈a.cy,K.size<=1000000):=λK a4=>bq (n.ny K a4) Q
 have a0:a.H<=1000000:=by have:=n.H;have:=n.U;omega
 clear n;by_cases m:a.bg=3
 .rw[m]at a3;have o:=Kx i b a r j t;by_cases f:a.known=false
  .have p:Y (a.ix b true=(a,0)):=by rw[Y,s.out,G ⟨m,f⟩]
   rw[f]at o;generalize a.more=mo at o;clear s m f;go_in;go_wp21;go_call o;rintro l a1 ⟨rfl,d,rfl⟩;go_wp21;go_ret;rw[p.out];exact⟨rfl,(Ok.refl t).drewN d⟩
  have L:a.known=true:=qK f
  rw[L]at o;by_cases B:a.more=false
  .have p:Y (a.ix b true=(a,4)):=by rw[Y,s.out,N<|by simp[f],G ⟨m,B⟩]
   rw[B]at o;clear s m f L B;go_in;go_wp21;go_call o;rintro l a1 ⟨rfl,d,rfl⟩;go_wp21;go_ret;rw[p.out];exact⟨rfl,(Ok.refl t).drewN d⟩
  have c:a.more=true:=qK B
  rw[c]at o;have p:Y (a.ix b true=({a with bg:=4}:Ed).kq b true):=by
   rw[Y,s.out,N<|by simp[f],N<|by simp[B],G m,G rfl]
  clear s m f L B c;have M:Y (∀d,Ok j i b r {a with bg:=4} ((j.drewN d).setCell (O i 15)<|I 4)):=λd=>((Ok.refl t).drewN d).put<|λaE a5=>⟨(bf.refl _ _).setCell _ _,jx a5.row 15 _ Q rfl⟩
  have aF:=t.cd 15;go_in;go_wp21;go_call o;rintro l a1 ⟨rfl,a2,rfl⟩;clear o;obtain⟨H,c,a6⟩:∃H,(j.drewN a2).setCell (O i 15) (I 4)=H/\Y (Ok j i b r {a with bg:=4} H):=⟨_,rfl,M a2⟩;have a7:=J c;clear c;go_wp21;rw[a7.out];let⟨u,v,F⟩:=a6.out;have c:=Jv i b {a with bg:=4} u H v;rcases df (({a with bg:=4}).mh b)with k|k
  .rw[k]at c;have w:Y (a.ix b true=if(({a with bg:=4}).ej b true).2=true then(({a with bg:=4}).ej b true).1.fv ((({a with bg:=4}).ej b true).1.H+1)else((({a with bg:=4}).ej b true).1,0)):=by rw[Y,p.out,Ed.kq,G k]
   have q:=Ja b true<|{a with bg:=4};go_call c;rintro l w4 ⟨rfl,d,rfl⟩;clear c;have c:=agu i b {a with bg:=4} u _ (v.drewN d) W X Z;rcases hr:({a with bg:=4}).ej b true with⟨e,P⟩;rw[hr]at c w q;simp only at c q;have C:=F.drewN d;obtain f|f:=df P<;>subst f
   .have h:Y (a.ix b true=e.fv (e.H+1)):=by rw[Y,w.out];rfl
    clear hr;go_wp21;go_call c;rintro l x ⟨rfl,g⟩;clear c;let⟨qa,D,E⟩:=g;have R:=C.trans E;clear E;have a8:=D.xc 14;have a9:e.H<=1000000:=by rw[q];exact a0
    have c:=Br i b e qa x (e.H+1) D;generalize e.fv (e.H+1)=S at c h;clear q;go_wp21;go_call c;rintro l T ⟨rfl,g⟩;have U:Y (Ok j i b r S.1 T):=by
     let⟨y,z,A⟩:=g;exact⟨y,z,R.trans A⟩
    clear c g;go_wp21;go_ret;rw[h.out];exact⟨rfl,U⟩
   have h:Y (a.ix b true=(e,0)):=by rw[Y,w.out];rfl
   clear hr;go_wp21;go_call c;rintro l x ⟨rfl,g⟩;have V:Y (Ok j i b r e x):=by
    let⟨y,z,A⟩:=g;exact⟨y,z,C.trans A⟩
   clear c g;go_wp21;go_ret;rw[h.out];exact⟨rfl,V⟩
  rw[k]at c;have h:Y (a.ix b true=({a with bg:=4},0)):=by rw[Y,p.out,Ed.kq,N<|by rw[k];simp]
  go_call c;rintro l w4 ⟨rfl,d,rfl⟩;clear c;go_wp21;go_ret;rw[h.out];exact⟨rfl,u,v.drewN d,F.drewN d⟩
 have o:((a.bg:Int)==3)=false:=qB
 have p:Y (a.ix b true=a.kq b true):=by
  rw[Y,s.out,N<|by simp[m],N<|by simp[m],N m]
 clear s m;have M:=J<|Ok.refl t;go_in;go_wp21;let⟨u,v,F⟩:=M;have c:=Jv i b a u j v;rcases df ((a).mh b)with k|k
 .rw[k]at c;have w:Y (a.ix b true=if((a).ej b true).2=true then((a).ej b true).1.fv (((a).ej b true).1.H+1)else(((a).ej b true).1,0)):=by rw[Y,p.out,Ed.kq,G k]
  have q:=Ja b true<|a;go_call c;rintro l w4 ⟨rfl,d,rfl⟩;clear c;have c:=agu i b a u _ (v.drewN d) W X Z;rcases hr:(a).ej b true with⟨e,P⟩;rw[hr]at c w q;simp only at c q;have C:=F.drewN d;obtain f|f:=df P<;>subst f
  .have h:Y (a.ix b true=e.fv (e.H+1)):=by rw[Y,w.out];rfl
   clear hr;go_wp21;go_call c;rintro l x ⟨rfl,g⟩;clear c;let⟨qa,D,E⟩:=g;have R:=C.trans E;clear E;have a8:=D.xc 14;have a9:e.H<=1000000:=by rw[q];exact a0
   have c:=Br i b e qa x (e.H+1) D;generalize e.fv (e.H+1)=S at c h;clear q;go_wp21;go_call c;rintro l T ⟨rfl,g⟩;have U:Y (Ok j i b r S.1 T):=by
    let⟨y,z,A⟩:=g;exact⟨y,z,R.trans A⟩
   clear c g;go_wp21;go_ret;rw[h.out];exact⟨rfl,U⟩
  have h:Y (a.ix b true=(e,0)):=by rw[Y,w.out];rfl
  clear hr;go_wp21;go_call c;rintro l x ⟨rfl,g⟩;have V:Y (Ok j i b r e x):=by
   let⟨y,z,A⟩:=g;exact⟨y,z,C.trans A⟩
  clear c g;go_wp21;go_ret;rw[h.out];exact⟨rfl,V⟩
 rw[k]at c;have h:Y (a.ix b true=(a,0)):=by rw[Y,p.out,Ed.kq,N<|by rw[k];simp]
 go_call c;rintro l w4 ⟨rfl,d,rfl⟩;clear c;go_wp21;go_ret;rw[h.out];exact⟨rfl,u,v.drewN d,F.drewN d⟩
def Ed.Ag(E:Ed):Ed×Nat:=match xk E.L with
 |none=>(E,3)
 |some t=>({E with L:=t}.fq,2)
def Of{a:Ed}(b:xk a.L=none):a.Ag=(a,3):=by rw[Ed.Ag,b]
def Og{E:Ed}(a:xk E.L=some s):E.Ag=({E with L:=s}.fq,2):=by rw[Ed.Ag,a]
def aml(d:Cf)(a:Ed)(j:Ev)(f:ae)(m:At f i d a j)(h:ka d a):
  Calls prog 170 #[.pointer<|some ⟨i,0,none⟩] f (Step f i d j a.Ag):=by
 have e:=am4 i d a j f m (bq h.L Q);have n:a.out.length+fz a.cy<=70368744177664:=bq h.out Q;have o:Y (∀c∈a.cy,c.size<=1000000):=λc p=>bq (h.ny c p) Q
 go_in;go_wp21;go_call e;rintro q r b;obtain⟨hd,rfl,b⟩|⟨c,hd,rfl,b⟩:=b
 .have k:=J hd;have l:=J b;go_wp21;go_ret;rw[Of k.out];exact⟨rfl,l⟩
 have k:=J hd;let⟨s,g,t⟩:=b;have e:=Wv i d {a with L:=c} s r g n o;go_wp21;go_call e;rintro q g ⟨rfl,b⟩;have l:Y (Ok f i d j ({a with L:=c}:Ed).fq g):=by
  let⟨u,v,w⟩:=b;exact⟨u,v,t.trans w⟩
 go_wp21;go_ret;rw[Og k.out];exact⟨rfl,l⟩
